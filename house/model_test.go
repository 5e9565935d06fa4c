package house_test

import (
	"math/rand"
	"strings"
	"testing"

	"tenure/api"
	"tenure/house"
)

// model is the house as the document tells it, written a second time and otherwise: every chunk has a number and an owner.
type model struct {
	slots, chunks int
	tenants       []*modelTenant
}

type modelTenant struct {
	last   []int          // of each slot its last generation, -1 for none
	held   map[int]*piece // by the slot's number
	owners []*piece       // of each chunk
}

type piece struct {
	chunks []int
	size   int
	bytes  map[int]byte
}

func newModel(c api.Config) *model {
	m := &model{slots: c.Slots, chunks: c.Chunks}
	for range c.Tenants {
		t := &modelTenant{held: map[int]*piece{}, owners: make([]*piece, c.Chunks)}
		for range c.Slots {
			t.last = append(t.last, -1)
		}
		m.tenants = append(m.tenants, t)
	}
	return m
}

func (t *modelTenant) view() api.View {
	v := api.View{Slots: len(t.held)}
	for _, p := range t.owners {
		if p != nil {
			v.Chunks++
		}
	}
	return v
}

func (t *modelTenant) alloc(size int) string {
	p := &piece{size: size, bytes: map[int]byte{}}
	if size == 0 || size > 256 {
		return errRange
	}
	for i, owner := range t.owners {
		if owner == nil && 8*len(p.chunks) < size {
			p.chunks = append(p.chunks, i)
		}
	}
	if 8*len(p.chunks) < size {
		return errRoom
	}
	for number, generation := range t.last {
		if t.held[number] == nil && generation < 4095 {
			t.last[number]++
			t.held[number] = p
			for _, i := range p.chunks {
				t.owners[i] = p
			}
			return done + two(t.last[number]<<4|number)
		}
	}
	return errFull
}

func (t *modelTenant) free(number int) string {
	for _, i := range t.held[number].chunks {
		t.owners[i] = nil
	}
	delete(t.held, number)
	return done
}

func (p *piece) read(off, length int) string {
	if length > 64 || off+length > p.size {
		return errRange
	}
	var b strings.Builder
	b.WriteString(done)
	for i := off; i < off+length; i++ {
		b.WriteByte(p.bytes[i])
	}
	return b.String()
}

func (p *piece) write(off int, data string) string {
	if off+len(data) > p.size {
		return errRange
	}
	for i := range len(data) {
		p.bytes[off+i] = data[i]
	}
	return done
}

func twoAt(s string, at int) int { return int(s[at])<<8 | int(s[at+1]) }

func (m *model) ask(tenant int, s string) string {
	lengths := map[byte]int{1: 3, 2: 3, 3: 7, 5: 8, 6: 4, 7: 3, 8: 3, 9: 3}
	if len(s) == 0 || s[0] != 4 && len(s) != lengths[s[0]] || s[0] == 4 && (len(s) < 5 || len(s) > 69) {
		return errForm
	}
	t := m.tenants[tenant]
	if s[0] == 1 {
		return t.alloc(twoAt(s, 1))
	}
	number := twoAt(s, 1) & 15
	p := t.held[number]
	if p == nil || t.last[number] != twoAt(s, 1)>>4 {
		return errStale
	}
	switch s[0] {
	case 2:
		return t.free(number)
	case 3:
		return p.read(twoAt(s, 3), twoAt(s, 5))
	case 4:
		return p.write(twoAt(s, 3), s[5:])
	case 9:
		return done + two(p.size) + allRights
	}
	return errForm // Derive, Grant, Revoke and Drop are not served yet, and change nothing.
}

type pair struct {
	h *house.House
	m *model
}

func (p pair) check(t *testing.T, tenant int, request string) {
	t.Helper()
	wantReply(t, "P6 to P10, P14", p.h, tenant, request, p.m.ask(tenant, request))
	for i, x := range p.m.tenants {
		wantView(t, p.h, i, x.view().Slots, x.view().Chunks)
	}
}

// checkAll compares every byte that any tenant holds.
func (p pair) checkAll(t *testing.T) {
	t.Helper()
	for tenant, x := range p.m.tenants {
		for number, held := range x.held {
			handle := 16*x.last[number] + number
			p.check(t, tenant, info(handle))
			for off := 0; off < held.size; off += 64 {
				p.check(t, tenant, read(handle, off, min(64, held.size-off)))
			}
		}
	}
}

func anyHandle(r *rand.Rand, t *modelTenant) int {
	number := r.Intn(len(t.last))
	handle := 16*t.last[number] + number
	switch r.Intn(12) {
	case 0:
		handle += 16 * (r.Intn(3) - 1)
	case 1:
		handle = r.Intn(65536)
	case 2:
		handle = r.Intn(64)
	}
	return handle & 65535
}

func anyNumber(r *rand.Rand) int {
	switch r.Intn(6) {
	case 0:
		return r.Intn(300)
	case 1:
		return r.Intn(65536)
	case 2:
		return []int{0, 1, 63, 64, 65, 255, 256, 257, 65535}[r.Intn(9)]
	}
	return r.Intn(40)
}

func anyBytes(r *rand.Rand, n int) string {
	b := make([]byte, n)
	r.Read(b)
	return string(b)
}

func anyRequest(r *rand.Rand, t *modelTenant) string {
	handle := anyHandle(r, t)
	switch r.Intn(16) {
	case 0, 1, 2, 3:
		return alloc(anyNumber(r))
	case 4, 5:
		return free(handle)
	case 6, 7, 8:
		return read(handle, anyNumber(r), anyNumber(r))
	case 9, 10, 11:
		return write(handle, anyNumber(r), anyBytes(r, r.Intn(67)))
	case 12:
		return info(handle)
	case 13:
		return anyBytes(r, r.Intn(80))
	case 14:
		return string([]byte{byte(r.Intn(11))}) + anyBytes(r, r.Intn(9))
	}
	return string([]byte{byte(5 + r.Intn(4))}) + two(handle) + anyBytes(r, r.Intn(6))
}

// P1, P2, P6 to P10, P14, P15: whatever is asked, in any order, of several houses in turn, of which none shows in another.
func TestAnyRequestsInAnyOrder(t *testing.T) {
	r := rand.New(rand.NewSource(3))
	for range 300 {
		houses := []pair{}
		for range 3 {
			c := api.Config{Tenants: 1 + r.Intn(4), Slots: 1 + r.Intn(16), Chunks: 1 + r.Intn(32)}
			houses = append(houses, pair{open(t, c.Tenants, c.Slots, c.Chunks), newModel(c)})
		}
		for range 600 {
			p := houses[r.Intn(3)]
			tenant := r.Intn(len(p.m.tenants))
			p.check(t, tenant, anyRequest(r, p.m.tenants[tenant]))
		}
		for _, p := range houses {
			p.checkAll(t)
		}
	}
}

// P2: a house is the same, whether or not others of its kind are asked the like in between.
func TestHousesDoNotTouch(t *testing.T) {
	c := api.Config{Tenants: 2, Slots: 4, Chunks: 8}
	first, second := pair{open(t, 2, 4, 8), newModel(c)}, pair{open(t, 2, 4, 8), newModel(c)}
	for i := range 4 {
		first.check(t, 0, alloc(16))
		first.check(t, 0, write(i, 0, pattern(i, 16)))
	}
	wantView(t, second.h, 0, 0, 0)
	second.check(t, 0, info(0))
	second.check(t, 0, alloc(64))
	second.check(t, 0, read(0, 0, 64))
	second.check(t, 0, write(0, 0, pattern(7, 64)))
	first.check(t, 0, free(2))
	first.checkAll(t)
	second.checkAll(t)
}
