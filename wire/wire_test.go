package wire_test

import (
	"math"
	"math/rand"
	"strings"
	"testing"

	"tenure/api"
	"tenure/wire"
)

// form is a row of the table of P3, written here a second time so that the tests do not lean on the program's own.
// fields names what follows the Op, in order; 2 and 1 are bytes, Data is of any length up to MaxData.
type form struct {
	op     int
	fields []field
	data   bool
}

type field struct {
	name  string
	bytes int
}

var (
	handle = field{"Handle", 2}
	off    = field{"Off", 2}
	length = field{"Len", 2}
	rights = field{"Rights", 1}
	tenant = field{"Tenant", 1}
)

var forms = []form{
	{1, []field{length}, false},
	{2, []field{handle}, false},
	{3, []field{handle, off, length}, false},
	{4, []field{handle, off}, true},
	{5, []field{handle, off, length, rights}, false},
	{6, []field{handle, tenant}, false},
	{7, []field{handle}, false},
	{8, []field{handle}, false},
	{9, []field{handle}, false},
}

var numberFields = []string{"Handle", "Off", "Len", "Rights", "Tenant"}

func place(q *api.Request, name string) *int {
	switch name {
	case "Handle":
		return &q.Handle
	case "Off":
		return &q.Off
	case "Len":
		return &q.Len
	case "Rights":
		return &q.Rights
	}
	return &q.Tenant
}

func (f form) names(name string) bool {
	for _, g := range f.fields {
		if g.name == name {
			return true
		}
	}
	return false
}

// numbersEnd is how many bytes the Op and the numbers take.
func (f form) numbersEnd() int {
	n := 1
	for _, g := range f.fields {
		n += g.bytes
	}
	return n
}

func (f form) hasLength(n int) bool {
	end := f.numbersEnd()
	if f.data {
		return end <= n && n <= end+64
	}
	return n == end
}

func formOf(op int) (form, bool) {
	for _, f := range forms {
		if f.op == op {
			return f, true
		}
	}
	return form{}, false
}

func (g field) max() int {
	if g.bytes == 1 {
		return 255
	}
	return 65535
}

func wantPair(t *testing.T, q api.Request, s string) {
	t.Helper()
	if got, e := wire.Encode(q); got != s || e != api.OK {
		t.Errorf("P3: Encode(%+v) = %x, %d; want %x, 0", q, got, e, s)
	}
	if got, e := wire.Decode(s); got != q || e != api.OK {
		t.Errorf("P4: Decode(%x) = %+v, %d; want %+v, 0", s, got, e, q)
	}
}

func wantNoBytes(t *testing.T, q api.Request) {
	t.Helper()
	if s, e := wire.Encode(q); s != "" || e != api.ErrForm {
		t.Errorf("P3, P1: Encode(%+v) = %.80x, %d; want nothing and ErrForm", q, s, e)
	}
}

func wantNoRequest(t *testing.T, s string) {
	t.Helper()
	if q, e := wire.Decode(s); q != (api.Request{}) || e != api.ErrForm {
		t.Errorf("P4, P1: Decode(%.80x) (%d bytes) = %+v, %d; want nothing and ErrForm", s, len(s), q, e)
	}
}

func TestOrdinaryRequests(t *testing.T) {
	wantPair(t, api.Request{Op: api.Alloc, Len: 0x0102}, "\x01\x01\x02")
	wantPair(t, api.Request{Op: api.Free, Handle: 0x0304}, "\x02\x03\x04")
	wantPair(t, api.Request{Op: api.Read, Handle: 0x0506, Off: 0x0708, Len: 0x090a}, "\x03\x05\x06\x07\x08\x09\x0a")
	wantPair(t, api.Request{Op: api.Write, Handle: 0x0b0c, Off: 0x0d0e, Data: "memory"}, "\x04\x0b\x0c\x0d\x0ememory")
	wantPair(t, api.Request{Op: api.Derive, Handle: 0x0f10, Off: 0x1112, Len: 0x1314, Rights: 0x15}, "\x05\x0f\x10\x11\x12\x13\x14\x15")
	wantPair(t, api.Request{Op: api.Grant, Handle: 0x1617, Tenant: 0x18}, "\x06\x16\x17\x18")
	wantPair(t, api.Request{Op: api.Revoke, Handle: 0x191a}, "\x07\x19\x1a")
	wantPair(t, api.Request{Op: api.Drop, Handle: 0x1b1c}, "\x08\x1b\x1c")
	wantPair(t, api.Request{Op: api.Info, Handle: 0x1d1e}, "\x09\x1d\x1e")
}

func TestRequestsOfTheDocumentsExamples(t *testing.T) {
	wantPair(t, api.Request{Op: api.Alloc, Len: 10}, "\x01\x00\x0a")
	wantPair(t, api.Request{Op: api.Alloc, Len: 257}, "\x01\x01\x01")
	wantNoRequest(t, "\x01\x00")
	wantPair(t, api.Request{Op: api.Write, Off: 8, Data: "ab"}, "\x04\x00\x00\x00\x08\x61\x62")
	wantPair(t, api.Request{Op: api.Read, Off: 7, Len: 3}, "\x03\x00\x00\x00\x07\x00\x03")
	wantPair(t, api.Request{Op: api.Write, Off: 10}, "\x04\x00\x00\x00\x0a")
	wantPair(t, api.Request{Op: api.Derive, Off: 8, Len: 2, Rights: 5}, "\x05\x00\x00\x00\x08\x00\x02\x05")
	wantPair(t, api.Request{Op: api.Info, Handle: 1}, "\x09\x00\x01")
	wantPair(t, api.Request{Op: api.Drop}, "\x08\x00\x00")
	wantPair(t, api.Request{Op: api.Grant, Handle: 1, Tenant: 2}, "\x06\x00\x01\x02")
	wantPair(t, api.Request{Op: api.Revoke}, "\x07\x00\x00")
	wantPair(t, api.Request{Op: api.Free, Handle: 17}, "\x02\x00\x11")
}

// Every value of every number, so that no byte can stand in a wrong place or be cut off.
func TestEveryNumberOfEveryField(t *testing.T) {
	for _, f := range forms {
		at := 1
		for _, g := range f.fields {
			for n := 0; n <= g.max() && !t.Failed(); n++ {
				q := api.Request{Op: f.op}
				*place(&q, g.name) = n
				b := make([]byte, f.numbersEnd())
				b[0] = byte(f.op)
				b[at+g.bytes-1] = byte(n)
				if g.bytes == 2 {
					b[at] = byte(n >> 8)
				}
				wantPair(t, q, string(b))
			}
			at += g.bytes
		}
	}
}

func TestEncodeNumbersOutOfBounds(t *testing.T) {
	for _, f := range forms {
		for _, g := range f.fields {
			over := g.max() + 1
			for _, n := range []int{-1, -2, -255, -256, -65536, over, over + 1, 2 * over, 65536, 1 << 16, 1 << 24, 1 << 31, 1 << 32, 1<<32 + 1, math.MaxInt, math.MinInt} {
				q := api.Request{Op: f.op}
				*place(&q, g.name) = n
				wantNoBytes(t, q)
			}
		}
	}
}

func TestEncodeFieldsThatAreNotNamed(t *testing.T) {
	for _, f := range forms {
		for _, name := range numberFields {
			if f.names(name) {
				continue
			}
			for _, n := range []int{1, -1, 255, 256, 65535, 65536, 1 << 32, math.MaxInt, math.MinInt} {
				q := api.Request{Op: f.op}
				*place(&q, name) = n
				wantNoBytes(t, q)
			}
		}
		if !f.data {
			for _, d := range []string{"a", "\x00", strings.Repeat("a", 64), strings.Repeat("a", 65)} {
				wantNoBytes(t, api.Request{Op: f.op, Data: d})
			}
		}
	}
}

func TestEncodeOpsThatAreNone(t *testing.T) {
	for op := -300; op <= 70000; op++ {
		if _, known := formOf(op); !known {
			wantNoBytes(t, api.Request{Op: op})
		}
	}
	for _, op := range []int{1<<32 + 1, 1<<32 + 4, 1 << 62, math.MaxInt, math.MinInt, math.MinInt + 1} {
		wantNoBytes(t, api.Request{Op: op})
		wantNoBytes(t, api.Request{Op: op, Handle: 1, Off: 1, Len: 1, Rights: 1, Tenant: 1, Data: "a"})
	}
}

func TestWriteData(t *testing.T) {
	head := "\x04\x00\x01\x00\x02"
	for n := 0; n <= 300; n++ {
		for _, b := range []string{"\x00", "a", "\xff"} {
			q := api.Request{Op: api.Write, Handle: 1, Off: 2, Data: strings.Repeat(b, n)}
			if n <= 64 {
				wantPair(t, q, head+q.Data)
			} else {
				wantNoBytes(t, q)
				wantNoRequest(t, head+q.Data)
			}
		}
	}
	all := make([]byte, 256)
	for i := range all {
		all[i] = byte(i)
	}
	for i := 0; i < 256; i += 64 {
		d := string(all[i : i+64])
		wantPair(t, api.Request{Op: api.Write, Handle: 1, Off: 2, Data: d}, head+d)
	}
}

func TestDecodeEveryOpAtEveryLength(t *testing.T) {
	wantNoRequest(t, "")
	for op := 0; op < 256; op++ {
		f, known := formOf(op)
		for n := 1; n <= 150; n++ {
			for _, b := range []string{"\x00", "\x04", "\xff"} {
				s := string([]byte{byte(op)}) + strings.Repeat(b, n-1)
				if !known || !f.hasLength(n) {
					wantNoRequest(t, s)
					continue
				}
				q, e := wire.Decode(s)
				if e != api.OK {
					t.Errorf("P4: Decode(%x) is refused with %d", s, e)
				}
				wantPair(t, q, s)
			}
		}
	}
}

func TestDecodeLongStrings(t *testing.T) {
	for op := 0; op < 256; op++ {
		for _, n := range []int{255, 256, 257, 65535, 65536, 1 << 20} {
			wantNoRequest(t, string([]byte{byte(op)})+strings.Repeat("\x00", n))
		}
	}
}

// P1: at all numbers and strings: any mixture of fields is either refused, or has bytes that say it again.
func TestAnyRequest(t *testing.T) {
	r := rand.New(rand.NewSource(1))
	numbers := []int{0, 0, 0, 0, 1, 5, 255, 256, 65535, 65536, -1, math.MaxInt, math.MinInt}
	taken := 0
	for i := 0; i < 200000 && !t.Failed(); i++ {
		q := api.Request{Op: r.Intn(12) - 1, Data: strings.Repeat("x", r.Intn(2)*r.Intn(80))}
		fit := len(q.Data) <= 64
		f, known := formOf(q.Op)
		for _, name := range numberFields {
			*place(&q, name) = numbers[r.Intn(len(numbers))]
			fit = fit && (f.names(name) || *place(&q, name) == 0)
		}
		for _, g := range f.fields {
			n := *place(&q, g.name)
			fit = fit && n >= 0 && n <= g.max()
		}
		if !known || !fit || (!f.data && q.Data != "") {
			wantNoBytes(t, q)
			continue
		}
		s, _ := wire.Encode(q)
		wantPair(t, q, s)
		taken++
	}
	if taken < 1000 {
		t.Errorf("only %d of the requests had bytes: the test says too little", taken)
	}
}

// P1 and P4: at any string.
func TestAnyString(t *testing.T) {
	r := rand.New(rand.NewSource(2))
	for i := 0; i < 200000 && !t.Failed(); i++ {
		b := make([]byte, r.Intn(80))
		r.Read(b)
		if len(b) > 0 {
			b[0] %= 12
		}
		s := string(b)
		f, known := formOf(0)
		if len(b) > 0 {
			f, known = formOf(int(b[0]))
		}
		if !known || !f.hasLength(len(s)) {
			wantNoRequest(t, s)
			continue
		}
		q, _ := wire.Decode(s)
		wantPair(t, q, s)
	}
}

// P2: the same argument has the same answer, whatever was asked before.
func TestAnswersHangOnTheArgumentAlone(t *testing.T) {
	requests := []api.Request{
		{Op: api.Write, Handle: 65535, Off: 65535, Data: strings.Repeat("\xff", 64)},
		{Op: api.Write}, {Op: api.Alloc, Len: 3}, {}, {Op: api.Alloc}, {Op: 77}, {Op: api.Read, Off: 9},
		{Op: api.Derive, Handle: 1, Off: 2, Len: 3, Rights: 4}, {Op: api.Derive}, {Op: api.Grant, Tenant: 300}, {Op: api.Grant, Tenant: 200},
	}
	strs := []string{"\x04\xff\xff\xff\xffdata", "", "\x04\x00\x00\x00\x00", "\x01\x00\x01", "\x01", "\x05\x01\x02\x03\x04\x05\x06\x07", "\x09\x00\x00", "\xff"}
	for _, q := range requests {
		for _, s := range strs {
			s1, e1 := wire.Encode(q)
			q1, d1 := wire.Decode(s)
			for _, other := range requests {
				wire.Encode(other)
			}
			for _, other := range strs {
				wire.Decode(other)
			}
			s2, e2 := wire.Encode(q)
			q2, d2 := wire.Decode(s)
			if s1 != s2 || e1 != e2 {
				t.Errorf("P2: Encode(%+v) = %x, %d, and later %x, %d", q, s1, e1, s2, e2)
			}
			if q1 != q2 || d1 != d2 {
				t.Errorf("P2: Decode(%x) = %+v, %d, and later %+v, %d", s, q1, d1, q2, d2)
			}
		}
	}
}
