package house_test

import (
	"math/rand"
	"strings"
	"testing"

	"tenure/api"
	"tenure/house"
)

// model is the house as the document tells it, written a second time and otherwise: every chunk has an owner, a stretch is
// a row of cells, and what is below a slot is found by going up from all others.
type model struct {
	tenants []*modelTenant
}

type modelTenant struct {
	last   []int         // of each slot its last generation, -1 for none
	held   map[int]*hold // by the slot's number
	owners []*hold       // of each chunk
}

type hold struct {
	from   *hold   // nil, if it is a root
	cells  []*byte // the bytes of the stretch
	rights int
}

func newModel(c api.Config) *model {
	m := &model{}
	for range c.Tenants {
		t := &modelTenant{held: map[int]*hold{}, owners: make([]*hold, c.Chunks)}
		for range c.Slots {
			t.last = append(t.last, -1)
		}
		m.tenants = append(m.tenants, t)
	}
	return m
}

func (t *modelTenant) view() api.View {
	v := api.View{Slots: len(t.held)}
	for _, x := range t.owners {
		if x != nil {
			v.Chunks++
		}
	}
	return v
}

func (t *modelTenant) lay(x *hold) string {
	for number, generation := range t.last {
		if t.held[number] == nil && generation < 4095 {
			t.last[number]++
			t.held[number] = x
			return done + two(t.last[number]<<4|number)
		}
	}
	return errFull
}

func (t *modelTenant) alloc(size int) string {
	if size == 0 || size > 256 {
		return errRange
	}
	var chunks []int
	for i, owner := range t.owners {
		if owner == nil && 8*len(chunks) < size {
			chunks = append(chunks, i)
		}
	}
	if 8*len(chunks) < size {
		return errRoom
	}
	x := &hold{rights: 7}
	for range size {
		x.cells = append(x.cells, new(byte))
	}
	reply := t.lay(x)
	if reply != errFull {
		for _, i := range chunks {
			t.owners[i] = x
		}
	}
	return reply
}

func (x *hold) isBelow(y *hold) bool {
	for x != nil && x.from != y {
		x = x.from
	}
	return x != nil
}

// empty takes out what is below a holding, and the holding itself too, if it is asked for.
func (m *model) empty(y *hold, itself bool) string {
	for _, t := range m.tenants {
		for number, x := range t.held {
			if x.isBelow(y) || itself && x == y {
				delete(t.held, number)
			}
		}
		for i, x := range t.owners {
			if itself && x == y {
				t.owners[i] = nil
			}
		}
	}
	return done
}

func (x *hold) read(off, length int) string {
	switch {
	case x.rights%2 == 0:
		return errRights
	case length > 64 || off+length > len(x.cells):
		return errRange
	}
	var b strings.Builder
	b.WriteString(done)
	for _, cell := range x.cells[off : off+length] {
		b.WriteByte(*cell)
	}
	return b.String()
}

func (x *hold) write(off int, data string) string {
	switch {
	case x.rights/2%2 == 0:
		return errRights
	case off+len(data) > len(x.cells):
		return errRange
	}
	for i := range len(data) {
		*x.cells[off+i] = data[i]
	}
	return done
}

func (t *modelTenant) derive(x *hold, off, length, rights int) string {
	if x.rights < 4 {
		return errRights
	}
	for bit := 1; bit < 256; bit *= 2 {
		if rights/bit%2 > x.rights/bit%2 {
			return errRights
		}
	}
	if off+length > len(x.cells) {
		return errRange
	}
	return t.lay(&hold{from: x, cells: x.cells[off : off+length], rights: rights})
}

func (m *model) grant(x *hold, to int) string {
	switch {
	case x.rights < 4:
		return errRights
	case to >= len(m.tenants):
		return errTenant
	}
	return m.tenants[to].lay(&hold{from: x, cells: x.cells, rights: x.rights})
}

func twoAt(s string, at int) int { return int(s[at])<<8 | int(s[at+1]) }

func (m *model) ask(tenant int, s string) string {
	lengths := map[byte]int{1: 3, 2: 3, 3: 7, 5: 8, 6: 4, 7: 3, 8: 3, 9: 3}
	if len(s) == 0 || s[0] != 4 && len(s) != lengths[s[0]] || s[0] == 4 && (len(s) < 5 || len(s) > 69) {
		return errForm
	}
	t := m.tenants[tenant]
	if s[0] == 1 {
		return t.alloc(twoAt(s, 1))
	}
	number := twoAt(s, 1) & 15
	x := t.held[number]
	if x == nil || t.last[number] != twoAt(s, 1)>>4 {
		return errStale
	}
	switch s[0] {
	case 3:
		return x.read(twoAt(s, 3), twoAt(s, 5))
	case 4:
		return x.write(twoAt(s, 3), s[5:])
	case 5:
		return t.derive(x, twoAt(s, 3), twoAt(s, 5), int(s[7]))
	case 6:
		return m.grant(x, int(s[3]))
	case 7:
		return m.empty(x, false)
	case 9:
		return done + two(len(x.cells)) + string([]byte{byte(x.rights)})
	}
	if isFree := s[0] == 2; isFree != (x.from == nil) {
		return errRoot
	}
	return m.empty(x, true)
}

type pair struct {
	h *house.House
	m *model
}

func (p pair) check(t *testing.T, tenant int, request string) {
	t.Helper()
	wantReply(t, "P6 to P14", p.h, tenant, request, p.m.ask(tenant, request))
	for i, x := range p.m.tenants {
		wantView(t, p.h, i, x.view().Slots, x.view().Chunks)
	}
}

// checkAll compares all that any tenant holds, and every byte of it.
func (p pair) checkAll(t *testing.T) {
	t.Helper()
	for tenant, x := range p.m.tenants {
		for number := range x.last {
			handle := 16*x.last[number] + number
			p.check(t, tenant, info(handle))
			for off := 0; off <= 256; off += 16 {
				p.check(t, tenant, read(handle, off, 16))
			}
			for off := 0; x.held[number] != nil && off < len(x.held[number].cells); off++ {
				p.check(t, tenant, read(handle, off, 1))
			}
		}
	}
}

func anyHandle(r *rand.Rand, t *modelTenant) int {
	number := r.Intn(len(t.last))
	handle := 16*t.last[number] + number
	switch r.Intn(12) {
	case 0:
		handle += 16 * (r.Intn(3) - 1)
	case 1:
		handle = r.Intn(65536)
	case 2:
		handle = r.Intn(64)
	}
	return handle & 65535
}

func anyNumber(r *rand.Rand) int {
	switch r.Intn(6) {
	case 0:
		return r.Intn(300)
	case 1:
		return r.Intn(65536)
	case 2:
		return []int{0, 1, 63, 64, 65, 255, 256, 257, 65535}[r.Intn(9)]
	}
	return r.Intn(40)
}

func anyBytes(r *rand.Rand, n int) string {
	b := make([]byte, n)
	r.Read(b)
	return string(b)
}

// anyStretch is mostly one of what is held by a handle, or one just beside it.
func anyStretch(r *rand.Rand, t *modelTenant, handle int) (off, length int) {
	x := t.held[handle%16]
	if x == nil || r.Intn(4) == 0 {
		return anyNumber(r), anyNumber(r)
	}
	off = r.Intn(len(x.cells) + 1)
	return off, r.Intn(len(x.cells) - off + 2)
}

func anyRead(r *rand.Rand, t *modelTenant, handle int) string {
	off, length := anyStretch(r, t, handle)
	return read(handle, off, length)
}

func anyWrite(r *rand.Rand, t *modelTenant, handle int) string {
	off, length := anyStretch(r, t, handle)
	return write(handle, off, anyBytes(r, length%67))
}

// anyDerive is mostly one that is served, or one just beside it.
func anyDerive(r *rand.Rand, t *modelTenant, handle int) string {
	x := t.held[handle%16]
	if x == nil || r.Intn(8) == 0 {
		return derive(handle, anyNumber(r), anyNumber(r), r.Intn(256))
	}
	off := r.Intn(len(x.cells)/2 + 2)
	length := max(0, len(x.cells)-off-r.Intn(4)+r.Intn(2))
	rights := x.rights
	if r.Intn(2) == 0 {
		rights &= r.Intn(8)
	}
	if r.Intn(6) == 0 {
		rights |= 1 << r.Intn(8)
	}
	return derive(handle, off, length, rights)
}

// anyGrant is mostly one to a tenant that there may be.
func anyGrant(r *rand.Rand, handle int) string {
	if r.Intn(8) == 0 {
		return grant(handle, r.Intn(256))
	}
	return grant(handle, r.Intn(5))
}

func anyRequest(r *rand.Rand, t *modelTenant) string {
	handle := anyHandle(r, t)
	switch r.Intn(28) {
	case 0, 1, 2, 3:
		return alloc(anyNumber(r))
	case 4:
		return free(handle)
	case 5, 6, 7:
		return anyRead(r, t, handle)
	case 8, 9, 10:
		return anyWrite(r, t, handle)
	case 11, 12, 13, 14, 15, 16:
		return anyDerive(r, t, handle)
	case 17, 18:
		return drop(handle)
	case 19:
		return revoke(handle)
	case 20:
		return info(handle)
	case 21:
		return anyBytes(r, r.Intn(80))
	case 22:
		return string([]byte{byte(r.Intn(11))}) + anyBytes(r, r.Intn(9))
	case 23, 24, 25, 26:
		return anyGrant(r, handle)
	}
	return string([]byte{byte(5 + r.Intn(4))}) + two(handle) + anyBytes(r, r.Intn(6))
}

// P1, P2, P6 to P15: whatever is asked, in any order, of several houses in turn, of which none shows in another.
func TestAnyRequestsInAnyOrder(t *testing.T) {
	r := rand.New(rand.NewSource(3))
	for range 300 {
		houses := []pair{}
		for range 3 {
			c := api.Config{Tenants: 1 + r.Intn(4), Slots: 1 + r.Intn(16), Chunks: 1 + r.Intn(32)}
			houses = append(houses, pair{open(t, c.Tenants, c.Slots, c.Chunks), newModel(c)})
		}
		for range 600 {
			p := houses[r.Intn(3)]
			tenant := r.Intn(len(p.m.tenants))
			p.check(t, tenant, anyRequest(r, p.m.tenants[tenant]))
		}
		for _, p := range houses {
			p.checkAll(t)
		}
	}
}

// age uses every slot of a tenant so many times.
func (p pair) age(t *testing.T, tenant, uses int) {
	t.Helper()
	last := p.m.tenants[tenant].last
	for number := range last {
		for generation := range uses {
			last[number] = generation
			wantReply(t, "P7", p.h, tenant, alloc(1), done+two(16*generation+number))
			if generation < uses-1 {
				wantReply(t, "P8", p.h, tenant, free(16*generation+number), done)
			}
		}
	}
	for number := range last {
		wantReply(t, "P8", p.h, tenant, free(16*last[number]+number), done)
	}
}

// The same, while one slot after the other is used up.
func TestAnyRequestsWhileSlotsAreUsedUp(t *testing.T) {
	r := rand.New(rand.NewSource(4))
	for range 12 {
		c := api.Config{Tenants: 1 + r.Intn(2), Slots: 1 + r.Intn(4), Chunks: 4}
		p := pair{open(t, c.Tenants, c.Slots, c.Chunks), newModel(c)}
		for tenant := range c.Tenants {
			p.age(t, tenant, 4080+r.Intn(16))
		}
		for range 2000 {
			tenant := r.Intn(c.Tenants)
			p.check(t, tenant, anyRequest(r, p.m.tenants[tenant]))
		}
		p.checkAll(t)
	}
}

// P2: a house is the same, whether or not others of its kind are asked the like in between.
func TestHousesDoNotTouch(t *testing.T) {
	c := api.Config{Tenants: 2, Slots: 4, Chunks: 8}
	first, second := pair{open(t, 2, 4, 8), newModel(c)}, pair{open(t, 2, 4, 8), newModel(c)}
	for i := range 4 {
		first.check(t, 0, alloc(16))
		first.check(t, 0, write(i, 0, pattern(i, 16)))
	}
	wantView(t, second.h, 0, 0, 0)
	second.check(t, 0, info(0))
	second.check(t, 0, alloc(64))
	second.check(t, 0, read(0, 0, 64))
	second.check(t, 0, write(0, 0, pattern(7, 64)))
	first.check(t, 0, free(2))
	first.check(t, 0, grant(1, 1))
	first.check(t, 0, derive(0, 4, 8, 7))
	second.check(t, 0, derive(0, 8, 16, 7))
	second.check(t, 0, derive(1, 0, 8, 1))
	second.check(t, 0, grant(0, 1))
	second.check(t, 0, grant(0, 1))
	first.check(t, 0, revoke(0))
	first.check(t, 0, drop(1))
	first.checkAll(t)
	second.checkAll(t)
	second.check(t, 0, drop(1))
	first.check(t, 0, grant(0, 1))
	second.check(t, 0, free(0))
	first.checkAll(t)
	second.checkAll(t)
}
