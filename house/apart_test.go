package house_test

import (
	"math/rand"
	"testing"

	"tenure/api"
	"tenure/house"
)

// P16: what follows from the other promises, tested as it is said. The model is asked too, so that requests are made by handles
// that are held.

// lent opens a house where tenant 0 has an object of 24 bytes, all of them 128 or above. Of these tenant 1 was granted
// those from 8 on to 19, and from tenant 1 tenant 2 those from 10 on to 13, both to read and to give on. Tenant 3 was granted nothing.
func lent(t *testing.T) pair {
	t.Helper()
	p := pair{open(t, 4, 6, 8), newModel(api.Config{Tenants: 4, Slots: 6, Chunks: 8})}
	p.check(t, 0, alloc(24))
	p.check(t, 0, write(0, 0, lentBytes()))
	p.check(t, 0, derive(0, 8, 12, 5))
	p.check(t, 0, grant(1, 1))
	p.check(t, 1, derive(0, 2, 4, 5))
	p.check(t, 1, grant(1, 2))
	return p
}

func lentBytes() string {
	b := make([]byte, 24)
	for i := range b {
		b[i] = byte(128 + i)
	}
	return string(b)
}

// lentTo: which bytes of the object a tenant was granted: from the first to before the last.
var lentTo = [4][2]int{{0, 24}, {8, 20}, {10, 14}, {0, 0}}

// P16: a tenant holds something by no handles but those it was granted, and reads by them all of the stretch and nothing else.
func TestReachByEveryHandle(t *testing.T) {
	h := lent(t).h
	for tenant := 1; tenant < 4; tenant++ {
		reached := [24]bool{}
		for handle := range 65536 {
			reply, _ := h.Ask(tenant, info(handle))
			if reply == errStale {
				wantReply(t, "P16", h, tenant, read(handle, 0, 1), errStale)
				wantReply(t, "P16", h, tenant, write(handle, 0, "a"), errStale)
				wantReply(t, "P16", h, tenant, grant(handle, tenant), errStale)
				continue
			}
			wantReply(t, "P16", h, tenant, write(handle, 0, "a"), errRights)
			for off := range 40 {
				reply, _ := h.Ask(tenant, read(handle, off, 1))
				if reply[:1] == done {
					reached[reply[1]-128] = true
				}
			}
		}
		for i, is := range reached {
			if is != (lentTo[tenant][0] <= i && i < lentTo[tenant][1]) {
				t.Errorf("P16: tenant %d reaches the byte %d: %v", tenant, i, is)
			}
		}
	}
	wantBytes(t, "P16", h, 0, 0, lentBytes())
}

// low makes bytes that are written tell from those of the object that was lent.
func low(request string) string {
	if len(request) < 5 || request[0] != api.Write {
		return request
	}
	b := []byte(request)
	for i := 5; i < len(b); i++ {
		b[i] %= 128
	}
	return string(b)
}

// P16: whatever the others ask, also of one another: no byte that was not lent to them, or to one who granted them something, is
// in a reply to them, and no byte of the object is changed, since to write it was granted to nobody.
func TestReachWhateverIsAsked(t *testing.T) {
	r := rand.New(rand.NewSource(5))
	for range 150 {
		p := lent(t)
		for range 400 {
			tenant := 1 + r.Intn(3)
			request := low(anyRequest(r, p.m.tenants[tenant]))
			p.m.ask(tenant, request)
			reply, e := p.h.Ask(tenant, request)
			if e != api.OK {
				t.Fatalf("P6: Ask(%d, % x): %d", tenant, request, e)
			}
			if len(request) == 7 && request[0] == api.Read {
				wantLent(t, tenant, request, reply)
			}
		}
		wantBytes(t, "P16", p.h, 0, 0, lentBytes())
	}
}

// wantLent: tenant 1 may give on to all others what it was granted.
func wantLent(t *testing.T, tenant int, request, reply string) {
	t.Helper()
	for _, b := range []byte(reply) {
		if b >= 128 && (int(b)-128 < lentTo[1][0] || int(b)-128 >= lentTo[1][1]) {
			t.Fatalf("P16: Ask(%d, % x) = % x: a byte of what was granted to nobody", tenant, request, reply)
		}
	}
}

// P16: what was taken back is not reached any more, nor is what was made of it.
func TestReachAfterRevoke(t *testing.T) {
	for _, request := range []string{revoke(0), revoke(1), drop(1), free(0)} {
		h := lent(t).h
		wantReply(t, "P13", h, 0, request, done)
		for tenant := 1; tenant < 4; tenant++ {
			wantView(t, h, tenant, 0, 0)
			for handle := range 65536 {
				wantReply(t, "P16", h, tenant, read(handle, 0, 0), errStale)
			}
		}
	}
}

// contents answers all bytes of all objects, in the order of their roots' slots.
func contents(t *testing.T, p pair) []string {
	t.Helper()
	var all []string
	for tenant, x := range p.m.tenants {
		for number := range x.last {
			root := x.held[number]
			if root == nil || root.from != nil {
				continue
			}
			s := ""
			for off := 0; off < len(root.cells); off += 64 {
				reply, _ := p.h.Ask(tenant, read(16*x.last[number]+number, off, min(64, len(root.cells)-off)))
				s += reply[1:]
			}
			all = append(all, s)
		}
	}
	return all
}

// P16: a Write changes one object at most, and of it no more bytes than it has; no request that leaves the objects be changes any.
func TestWriteChangesOneObject(t *testing.T) {
	r := rand.New(rand.NewSource(6))
	for range 60 {
		c := api.Config{Tenants: 2 + r.Intn(3), Slots: 2 + r.Intn(6), Chunks: 4 + r.Intn(29)}
		p := pair{open(t, c.Tenants, c.Slots, c.Chunks), newModel(c)}
		for range 200 {
			tenant := r.Intn(c.Tenants)
			request := anyRequest(r, p.m.tenants[tenant])
			before := contents(t, p)
			p.check(t, tenant, request)
			after := contents(t, p)
			if request == "" || request[0] == api.Alloc || request[0] == api.Free {
				continue
			}
			objects, bytes := differences(before, after)
			if objects > 1 || bytes > 0 && (request[0] != api.Write || bytes > len(request)-5) {
				t.Fatalf("P16: Ask(%d, % x) changed %d bytes of %d objects", tenant, request, bytes, objects)
			}
		}
	}
}

func differences(before, after []string) (objects, bytes int) {
	for i := range before {
		if before[i] != after[i] {
			objects++
		}
		for j := range before[i] {
			if before[i][j] != after[i][j] {
				bytes++
			}
		}
	}
	return objects, bytes
}

// P16: at every time every tenant has room for as great an object as it has chunks free, if it has an empty slot.
func TestRoomWhateverOthersDo(t *testing.T) {
	r := rand.New(rand.NewSource(7))
	for range 60 {
		c := api.Config{Tenants: 1 + r.Intn(4), Slots: 2 + r.Intn(8), Chunks: 1 + r.Intn(32)}
		p := pair{open(t, c.Tenants, c.Slots, c.Chunks), newModel(c)}
		for range 200 {
			tenant := r.Intn(c.Tenants)
			p.check(t, tenant, anyRequest(r, p.m.tenants[tenant]))
			for i := range c.Tenants {
				wantRoom(t, p, i, c)
			}
		}
	}
}

func wantRoom(t *testing.T, p pair, tenant int, c api.Config) {
	t.Helper()
	v, _ := p.h.Look(tenant)
	left := c.Chunks - v.Chunks
	if v.Slots == c.Slots || left == 0 {
		return
	}
	reply, _ := p.h.Ask(tenant, alloc(8*left))
	if len(reply) != 3 || reply[:1] != done {
		t.Fatalf("P16: tenant %d has %d chunks and a slot, and Alloc of %d bytes is answered % x", tenant, left, 8*left, reply)
	}
	p.m.ask(tenant, alloc(8*left))
	p.check(t, tenant, "\x02"+reply[1:])
}

// P16: a tenant whose slots others have filled has its chunks nevertheless, as soon as it gives up what it was granted.
func TestRoomOfTheOneThatWasGranted(t *testing.T) {
	h := open(t, 4, 16, 32)
	for tenant := range 3 {
		wantReply(t, "P7", h, tenant, alloc(256), done+two(0))
	}
	for number := range 16 {
		wantReply(t, "P12", h, number%3, grant(0, 3), done+two(number))
	}
	wantReply(t, "P7", h, 3, alloc(256), errFull)
	wantView(t, h, 3, 16, 0)
	wantReply(t, "P13", h, 3, drop(9), done)
	wantReply(t, "P7", h, 3, alloc(256), done+two(16+9))
	wantView(t, h, 3, 16, 32)
}

// within turns a Grant to a tenant of another group into one to a tenant of the asker's own.
func within(r *rand.Rand, request string, asker int, groups []int) string {
	if len(request) != 4 || request[0] != api.Grant {
		return request
	}
	to := int(request[3])
	for to < len(groups) && groups[to] != groups[asker] {
		to = r.Intn(len(groups))
	}
	return request[:3] + string([]byte{byte(to)})
}

// P16: tenants are in groups, of which none asks for a Grant to another. To each group all is answered as in a house where no other
// group asks for anything; within the groups, things are granted at once and by way of others.
func TestGroupsDoNotShow(t *testing.T) {
	r := rand.New(rand.NewSource(8))
	for range 250 {
		c := api.Config{Tenants: 2 + r.Intn(3), Slots: 1 + r.Intn(8), Chunks: 1 + r.Intn(32)}
		p := pair{open(t, c.Tenants, c.Slots, c.Chunks), newModel(c)}
		var groups []int
		var alone []*house.House
		for range c.Tenants {
			groups = append(groups, r.Intn(c.Tenants))
			alone = append(alone, open(t, c.Tenants, c.Slots, c.Chunks))
		}
		for range 300 {
			tenant := r.Intn(c.Tenants)
			request := within(r, anyRequest(r, p.m.tenants[tenant]), tenant, groups)
			p.m.ask(tenant, request)
			reply, _ := p.h.Ask(tenant, request)
			wantReply(t, "P16", alone[groups[tenant]], tenant, request, reply)
			for i, group := range groups {
				v, _ := p.h.Look(i)
				wantView(t, alone[group], i, v.Slots, v.Chunks)
			}
		}
	}
}

// P16: what one tenant asks, and fails at, does not show either: here all that tenant 1 is refused, up to a Grant by a stale handle.
func TestRefusedRequestsDoNotShow(t *testing.T) {
	h := open(t, 2, 2, 2)
	wantReply(t, "P7", h, 0, alloc(8), done+two(0))
	fill(t, h, 0, 0, "12345678")
	for _, request := range []string{
		free(0), read(0, 0, 8), write(0, 0, "a"), derive(0, 0, 8, 7), grant(0, 0), grant(0, 1), grant(0, 2), revoke(0), drop(0), info(0),
	} {
		wantReply(t, "P16", h, 1, request, errStale)
		wantReply(t, "P16", h, 1, alloc(17), errRoom)
		wantView(t, h, 0, 1, 1)
		wantView(t, h, 1, 0, 0)
		wantBytes(t, "P16", h, 0, 0, "12345678")
	}
	wantReply(t, "P11", h, 0, derive(0, 0, 8, 7), done+two(1))
	wantReply(t, "P7", h, 1, alloc(16), done+two(0))
}
