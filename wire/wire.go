// Package wire: requests as bytes: see DOC.md.
package wire

import "tenure/api"

// shape says what follows the Op in a request's bytes: of each number how many bytes, of Data how many at most.
// The fields follow one another in this order in every request. A field of 0 bytes is not named for the request.
type shape struct {
	handle, off, length, rights, tenant, data int
}

// shapeOf answers false for a number that is no request's Op.
func shapeOf(op int) (shape, bool) {
	switch op {
	case api.Alloc:
		return shape{length: 2}, true
	case api.Free, api.Revoke, api.Drop, api.Info:
		return shape{handle: 2}, true
	case api.Read:
		return shape{handle: 2, off: 2, length: 2}, true
	case api.Write:
		return shape{handle: 2, off: 2, data: api.MaxData}, true
	case api.Derive:
		return shape{handle: 2, off: 2, length: 2, rights: 1}, true
	case api.Grant:
		return shape{handle: 2, tenant: 1}, true
	}
	return shape{}, false
}

// fits tells whether so many bytes can say n; no bytes say 0 alone, as a field that is not named must be zero.
func fits(n, bytes int) bool {
	switch bytes {
	case 1:
		return 0 <= n && n <= 255
	case 2:
		return 0 <= n && n <= 65535
	}
	return n == 0
}

// hasShape tells whether every field of q, named or not, is as f asks.
func hasShape(q api.Request, f shape) bool {
	return fits(q.Handle, f.handle) &&
		fits(q.Off, f.off) &&
		fits(q.Len, f.length) &&
		fits(q.Rights, f.rights) &&
		fits(q.Tenant, f.tenant) &&
		len(q.Data) <= f.data
}

// number writes n in so many bytes, the high byte first.
func number(n, bytes int) string {
	switch bytes {
	case 1:
		return string([]byte{byte(n)})
	case 2:
		return string([]byte{byte(n / 256), byte(n % 256)})
	}
	return ""
}

// numberAt reads the number of so many bytes that stands in s from at on, the high byte first.
// Bytes that lie outside s count for nothing, so that no index can fail.
func numberAt(s string, at, bytes int) int {
	n := 0
	for i := at; 0 <= i && i < at+bytes && i < len(s); i++ {
		n = n*256 + int(s[i])
	}
	return n
}

// Encode writes a request (P3).
func Encode(q api.Request) (string, api.Errno) {
	f, known := shapeOf(q.Op)
	if !known || !hasShape(q, f) {
		return "", api.ErrForm
	}
	s := number(q.Op, 1)
	s += number(q.Handle, f.handle)
	s += number(q.Off, f.off)
	s += number(q.Len, f.length)
	s += number(q.Rights, f.rights)
	s += number(q.Tenant, f.tenant)
	return s + q.Data, api.OK
}

// Decode reads a request (P4).
func Decode(s string) (api.Request, api.Errno) {
	if len(s) == 0 {
		return api.Request{}, api.ErrForm
	}
	op := int(s[0])
	f, known := shapeOf(op)
	if !known {
		return api.Request{}, api.ErrForm
	}
	offAt := 1 + f.handle
	lenAt := offAt + f.off
	rightsAt := lenAt + f.length
	tenantAt := rightsAt + f.rights
	dataAt := tenantAt + f.tenant
	if len(s) < dataAt || len(s) > dataAt+f.data {
		return api.Request{}, api.ErrForm
	}
	q := api.Request{Op: op}
	q.Handle = numberAt(s, 1, f.handle)
	q.Off = numberAt(s, offAt, f.off)
	q.Len = numberAt(s, lenAt, f.length)
	q.Rights = numberAt(s, rightsAt, f.rights)
	q.Tenant = numberAt(s, tenantAt, f.tenant)
	q.Data = s[dataAt:]
	return q, api.OK
}
