package house_test

import (
	"math"
	"strings"
	"testing"

	"tenure/api"
	"tenure/house"
)

var strange = []int{-1, -2, -16, 1 << 8, 1 << 16, 1 << 31, 1 << 32, 1<<32 + 1, 1 << 62, math.MaxInt, math.MinInt, math.MinInt + 1}

func open(t *testing.T, tenants, slots, chunks int) *house.House {
	t.Helper()
	h, e := house.New(api.Config{Tenants: tenants, Slots: slots, Chunks: chunks})
	if h == nil || e != api.OK {
		t.Fatalf("P5: New(%d, %d, %d) = %v, %d", tenants, slots, chunks, h, e)
	}
	return h
}

func wantReply(t *testing.T, promise string, h *house.House, tenant int, request, reply string) {
	t.Helper()
	if got, e := h.Ask(tenant, request); got != reply || e != api.OK {
		t.Fatalf("%s: Ask(%d, % x) = % x, %d; want % x, 0", promise, tenant, request, got, e, reply)
	}
}

func wantView(t *testing.T, h *house.House, tenant, slots, chunks int) {
	t.Helper()
	if v, e := h.Look(tenant); v != (api.View{Slots: slots, Chunks: chunks}) || e != api.OK {
		t.Fatalf("P15: Look(%d) = %+v, %d; want %d slots, %d chunks", tenant, v, e, slots, chunks)
	}
}

// The requests as bytes are written here by hand, so that the tests do not lean on package wire.
func two(n int) string { return string([]byte{byte(n >> 8), byte(n)}) }

func alloc(size int) string               { return "\x01" + two(size) }
func free(handle int) string              { return "\x02" + two(handle) }
func read(handle, off, length int) string { return "\x03" + two(handle) + two(off) + two(length) }
func write(handle, off int, data string) string {
	return "\x04" + two(handle) + two(off) + data
}
func derive(handle, off, length, rights int) string {
	return "\x05" + two(handle) + two(off) + two(length) + string([]byte{byte(rights)})
}
func grant(handle, tenant int) string {
	return "\x06" + two(handle) + string([]byte{byte(tenant)})
}
func revoke(handle int) string { return "\x07" + two(handle) }
func drop(handle int) string   { return "\x08" + two(handle) }
func info(handle int) string   { return "\x09" + two(handle) }

const (
	done      = "\x00"
	errForm   = "\x01"
	errTenant = "\x03"
	errStale  = "\x04"
	errRights = "\x05"
	errRange  = "\x06"
	errRoom   = "\x07"
	errFull   = "\x08"
	errRoot   = "\x09"
	allRights = "\x07"
)

// pattern is so many bytes, of which no two that are near one another are the same, and none is 0.
func pattern(seed, n int) string {
	b := make([]byte, n)
	for i := range b {
		b[i] = byte((seed*37+i*11)%255 + 1)
	}
	return string(b)
}

// fill writes all of an object, piece by piece.
func fill(t *testing.T, h *house.House, tenant, handle int, data string) {
	t.Helper()
	for off := 0; off < len(data); off += 64 {
		wantReply(t, "P10", h, tenant, write(handle, off, data[off:min(off+64, len(data))]), done)
	}
}

func wantBytes(t *testing.T, promise string, h *house.House, tenant, handle int, data string) {
	t.Helper()
	for off := 0; off < len(data); off += 64 {
		piece := data[off:min(off+64, len(data))]
		wantReply(t, promise, h, tenant, read(handle, off, len(piece)), done+piece)
	}
}

// Example 1 and 2, and of 6 what needs no handle but that of the root.
func TestExamples(t *testing.T) {
	h := open(t, 2, 3, 4)
	wantReply(t, "P7", h, 0, "\x01\x00\x0a", "\x00\x00\x00")
	wantView(t, h, 0, 1, 2)
	wantReply(t, "P7", h, 0, "\x01\x00\x11", "\x07")
	wantReply(t, "P7", h, 0, "\x01\x00\x00", "\x06")
	wantReply(t, "P7", h, 0, "\x01\x01\x01", "\x06")
	wantReply(t, "P6", h, 0, "\x01\x00", "\x01")
	wantReply(t, "P10", h, 0, "\x04\x00\x00\x00\x08ab", "\x00")
	wantReply(t, "P9", h, 0, "\x03\x00\x00\x00\x07\x00\x03", "\x00\x00ab")
	wantReply(t, "P9", h, 0, "\x03\x00\x00\x00\x08\x00\x03", "\x06")
	wantReply(t, "P10", h, 0, "\x04\x00\x00\x00\x0a", "\x00")
	wantReply(t, "P8", h, 0, "\x02\x00\x00", "\x00")
	wantView(t, h, 0, 0, 0)
	wantReply(t, "P7", h, 0, "\x01\x00\x20", "\x00\x00\x10")
	wantReply(t, "P7", h, 0, "\x03\x00\x10\x00\x00\x00\x20", "\x00"+strings.Repeat("\x00", 32))
	wantView(t, h, 0, 1, 4)
	wantView(t, h, 1, 0, 0)
}

func TestNewBounds(t *testing.T) {
	numbers := append([]int{0, 1, 2, 3, 4, 5, 6, 15, 16, 17, 18, 31, 32, 33, 34}, strange...)
	for _, tenants := range numbers {
		for _, slots := range numbers {
			for _, chunks := range numbers {
				c := api.Config{Tenants: tenants, Slots: slots, Chunks: chunks}
				fits := 1 <= tenants && tenants <= 4 && 1 <= slots && slots <= 16 && 1 <= chunks && chunks <= 32
				h, e := house.New(c)
				if fits && (h == nil || e != api.OK) || !fits && (h != nil || e != api.ErrConfig) {
					t.Fatalf("P5: New(%+v) = %v, %d", c, h, e)
				}
			}
		}
	}
}

// P5: so many tenants, slots and chunks, no more and no fewer, all of them free.
func TestNewHouseHasWhatWasAsked(t *testing.T) {
	for tenants := 1; tenants <= 4; tenants++ {
		for slots := 1; slots <= 16; slots++ {
			for _, chunks := range []int{1, 2, 7, 8, 15, 16, 17, 31, 32} {
				h := open(t, tenants, slots, chunks)
				for tenant := range tenants {
					wantView(t, h, tenant, 0, 0)
					wantTakes(t, h, tenant, slots, chunks)
				}
				if v, e := h.Look(tenants); v != (api.View{}) || e != api.ErrTenant {
					t.Fatalf("P15: Look(%d) = %+v, %d in a house of %d tenants", tenants, v, e, tenants)
				}
			}
		}
	}
}

// wantTakes lays objects of one chunk into the tenant's slots, never used before, until it has no slot or no chunk any more.
func wantTakes(t *testing.T, h *house.House, tenant, slots, chunks int) {
	t.Helper()
	n := min(slots, chunks)
	for i := range n {
		wantReply(t, "P5, P7", h, tenant, alloc(8), done+two(i))
		wantView(t, h, tenant, i+1, i+1)
	}
	if n == chunks {
		wantReply(t, "P7", h, tenant, alloc(1), errRoom)
	} else {
		wantReply(t, "P7", h, tenant, alloc(1), errFull)
	}
	wantView(t, h, tenant, n, n)
}

func TestTenantsThatAreNone(t *testing.T) {
	for tenants := 1; tenants <= 4; tenants++ {
		h := open(t, tenants, 2, 2)
		for _, tenant := range append([]int{tenants, tenants + 1, 4, 5, 16, 64}, strange...) {
			for _, request := range []string{"", "\x01", alloc(1), alloc(0), free(0), read(0, 0, 0), write(0, 0, "a"), derive(0, 0, 0, 0), grant(0, 0), grant(0, 255), revoke(0), drop(0), info(0), "\xff"} {
				if s, e := h.Ask(tenant, request); s != "" || e != api.ErrTenant {
					t.Fatalf("P6, P1: Ask(%d, % x) = % x, %d; want nothing and ErrTenant", tenant, request, s, e)
				}
			}
			if v, e := h.Look(tenant); v != (api.View{}) || e != api.ErrTenant {
				t.Fatalf("P15, P1: Look(%d) = %+v, %d; want nothing and ErrTenant", tenant, v, e)
			}
		}
		for tenant := range tenants {
			wantView(t, h, tenant, 0, 0)
		}
	}
}

// P6: the bytes are looked at before the handle: here it is held in one house, and stale in the other.
func TestBytesThatAreNoRequest(t *testing.T) {
	h, empty := open(t, 1, 2, 4), open(t, 1, 2, 4)
	wantReply(t, "P7", h, 0, alloc(10), done+two(0))
	wrong := []string{"", "\x00", "\x0a\x00\x00", "\xff\x00\x00", write(0, 0, strings.Repeat("a", 65)), write(0, 9, strings.Repeat("a", 300))}
	for _, right := range []string{alloc(1), free(0), read(0, 0, 1), derive(0, 0, 1, 7), grant(0, 0), grant(0, 1), revoke(0), drop(0), info(0)} {
		for n := range right {
			wrong = append(wrong, right[:n])
		}
		wrong = append(wrong, right+"\x00", right+"a", right+right)
	}
	for n := range 5 {
		wrong = append(wrong, write(0, 0, "")[:n])
	}
	for _, request := range wrong {
		wantReply(t, "P6", h, 0, request, errForm)
		wantReply(t, "P6", empty, 0, request, errForm)
	}
	wantView(t, h, 0, 1, 2)
	wantBytes(t, "P6", h, 0, 0, strings.Repeat("\x00", 10))
	wantView(t, empty, 0, 0, 0)
}

// P6: whatever else is wrong with a request, if its handle is stale.
func TestStaleHandleOfEveryRequest(t *testing.T) {
	h := open(t, 2, 3, 4)
	wantReply(t, "P7", h, 0, alloc(10), done+two(0))
	for _, handle := range []int{1, 2, 3, 15, 16, 17, 32, 256, 0x1000, 0xfff0, 0xffff} {
		for _, request := range []string{
			free(handle), info(handle), read(handle, 0, 1), read(handle, 0, 65), read(handle, 65535, 65535),
			write(handle, 0, ""), write(handle, 0, "a"), write(handle, 65535, "a"),
			derive(handle, 0, 1, 7), derive(handle, 0, 11, 7), derive(handle, 0, 1, 8), derive(handle, 65535, 65535, 255),
			grant(handle, 0), grant(handle, 1), grant(handle, 2), grant(handle, 255), revoke(handle), drop(handle),
		} {
			wantReply(t, "P6", h, 0, request, errStale)
		}
	}
	wantReply(t, "P6", h, 1, info(0), errStale)
	wantReply(t, "P6", h, 1, free(0), errStale)
	wantReply(t, "P6", h, 1, write(0, 0, "a"), errStale)
	wantView(t, h, 0, 1, 2)
	wantBytes(t, "P6", h, 0, 0, strings.Repeat("\x00", 10))
}

// Of all handles those by which something is held are the only ones: here of slots of different generations.
func TestEveryHandle(t *testing.T) {
	h := open(t, 2, 16, 32)
	held := map[int]string{}
	for number := range 16 {
		for generation := range number * 3 {
			wantReply(t, "P7", h, 0, alloc(1), done+two(16*generation+number))
			wantReply(t, "P8", h, 0, free(16*generation+number), done)
		}
		handle := 16*number*3 + number
		wantReply(t, "P7", h, 0, alloc(number+1), done+two(handle))
		held[handle] = done + two(number+1) + allRights
	}
	wantReply(t, "P8", h, 0, free(16*5*3+5), done)
	delete(held, 16*5*3+5)
	for handle := range 65536 {
		reply, holds := held[handle]
		if !holds {
			reply = errStale
		}
		wantReply(t, "P6, P14", h, 0, info(handle), reply)
		wantReply(t, "P6", h, 1, info(handle), errStale)
	}
}

func TestAllocEveryLen(t *testing.T) {
	for length := range 65536 {
		h := open(t, 1, 1, 32)
		if length < 1 || length > 256 {
			wantReply(t, "P7", h, 0, alloc(length), errRange)
			wantView(t, h, 0, 0, 0)
			continue
		}
		wantReply(t, "P7", h, 0, alloc(length), done+two(0))
		wantReply(t, "P7, P14", h, 0, info(0), done+two(length)+allRights)
		wantView(t, h, 0, 1, (length+7)/8)
		wantBytes(t, "P7", h, 0, 0, strings.Repeat("\x00", length))
	}
}

func TestAllocEverySizeInEveryRoom(t *testing.T) {
	for chunks := 1; chunks <= 32; chunks++ {
		for size := 1; size <= 256; size++ {
			h := open(t, 2, 2, chunks)
			wantReply(t, "P7", h, 1, alloc(1), done+two(0))
			if size > 8*chunks {
				wantReply(t, "P7", h, 0, alloc(size), errRoom)
				wantView(t, h, 0, 0, 0)
				continue
			}
			wantReply(t, "P7", h, 0, alloc(size), done+two(0))
			left := chunks - (size+7)/8
			wantView(t, h, 0, 1, chunks-left)
			wantReply(t, "P7", h, 0, alloc(8*left+1), errRoom)
			if left > 0 {
				wantReply(t, "P7", h, 0, alloc(8*left), done+two(1))
				wantView(t, h, 0, 2, chunks)
			}
		}
	}
}

// P7, P1: of several errors the one that is named first.
func TestAllocErrorsInOrder(t *testing.T) {
	h := open(t, 1, 1, 2)
	wantReply(t, "P7", h, 0, alloc(1), done+two(0))
	wantReply(t, "P7", h, 0, alloc(0), errRange)
	wantReply(t, "P7", h, 0, alloc(257), errRange)
	wantReply(t, "P7", h, 0, alloc(65535), errRange)
	wantReply(t, "P7", h, 0, alloc(256), errRoom)
	wantReply(t, "P7", h, 0, alloc(9), errRoom)
	wantReply(t, "P7", h, 0, alloc(8), errFull)
	wantReply(t, "P7", h, 0, alloc(1), errFull)
	wantView(t, h, 0, 1, 1)
}

// P7: the lowest slot that is empty; P8: which one is freed does not matter.
func TestNextSlotIsTheLowest(t *testing.T) {
	h := open(t, 1, 16, 32)
	for number := range 16 {
		wantReply(t, "P7", h, 0, alloc(9), done+two(number))
	}
	wantReply(t, "P7", h, 0, alloc(1), errRoom)
	for _, number := range []int{9, 3, 15, 0} {
		wantReply(t, "P8", h, 0, free(number), done)
		wantReply(t, "P8", h, 0, free(number), errStale)
	}
	wantView(t, h, 0, 12, 24)
	for _, number := range []int{0, 3, 9, 15} {
		wantReply(t, "P7", h, 0, alloc(16), done+two(16+number))
		wantReply(t, "P6", h, 0, info(number), errStale)
	}
	wantView(t, h, 0, 16, 32)
}

// P7: new bytes are 0, even where others were; P8: chunks are free again, wherever they lay.
func TestNewBytesAreZero(t *testing.T) {
	h := open(t, 1, 4, 4)
	for i := range 4 {
		wantReply(t, "P7", h, 0, alloc(8), done+two(i))
		fill(t, h, 0, i, pattern(i, 8))
	}
	wantReply(t, "P8", h, 0, free(0), done)
	wantReply(t, "P8", h, 0, free(2), done)
	wantView(t, h, 0, 2, 2)
	wantReply(t, "P7", h, 0, alloc(16), done+two(16))
	wantBytes(t, "P7", h, 0, 16, strings.Repeat("\x00", 16))
	fill(t, h, 0, 16, pattern(9, 16))
	wantBytes(t, "P10", h, 0, 16, pattern(9, 16))
	wantBytes(t, "P10", h, 0, 1, pattern(1, 8))
	wantBytes(t, "P10", h, 0, 3, pattern(3, 8))
	for _, handle := range []int{1, 16, 3} {
		wantReply(t, "P8", h, 0, free(handle), done)
	}
	wantView(t, h, 0, 0, 0)
	wantReply(t, "P7", h, 0, alloc(32), done+two(32))
	wantBytes(t, "P7", h, 0, 32, strings.Repeat("\x00", 32))
}

// P8: after Free the handle serves nothing any more, also when its slot is used again.
func TestFreedHandleIsStale(t *testing.T) {
	h := open(t, 2, 2, 2)
	for tenant := range 2 {
		wantReply(t, "P7", h, tenant, alloc(8), done+two(0))
		fill(t, h, tenant, 0, "01234567")
	}
	requests := []string{free(0), read(0, 0, 0), read(0, 0, 8), write(0, 0, ""), write(0, 0, "a"), grant(0, 0), grant(0, 1), info(0)}
	wantReply(t, "P8", h, 0, free(0), done)
	for _, request := range requests {
		wantReply(t, "P8", h, 0, request, errStale)
	}
	wantReply(t, "P7", h, 0, alloc(8), done+two(16))
	for _, request := range requests {
		wantReply(t, "P8", h, 0, request, errStale)
	}
	wantBytes(t, "P8", h, 0, 16, strings.Repeat("\x00", 8))
	wantBytes(t, "P8", h, 1, 0, "01234567")
	wantView(t, h, 0, 1, 1)
	wantView(t, h, 1, 1, 1)
}

func TestReadEveryStretch(t *testing.T) {
	for _, size := range []int{1, 7, 8, 9, 63, 64, 65, 128, 255, 256} {
		h := open(t, 1, 1, 32)
		wantReply(t, "P7", h, 0, alloc(size), done+two(0))
		data := pattern(size, size)
		fill(t, h, 0, 0, data)
		for off := 0; off <= size+2; off++ {
			for length := 0; length <= 70; length++ {
				reply := errRange
				if length <= 64 && off+length <= size {
					reply = done + data[off:off+length]
				}
				wantReply(t, "P9", h, 0, read(0, off, length), reply)
			}
			for _, length := range []int{255, 256, 257, 65280, 65535 - off, 65536 - off, 65535} {
				if length <= 65535 {
					wantReply(t, "P9", h, 0, read(0, off, length), errRange)
				}
			}
		}
		for _, off := range []int{size + 1, 256, 257, 1000, 65280, 65472, 65534, 65535} {
			for _, length := range []int{0, 1, 2, 64, 65, 256, 65535} {
				if off > size || length > 0 {
					wantReply(t, "P9", h, 0, read(0, off, length), errRange)
				}
			}
		}
		wantBytes(t, "P9", h, 0, 0, data)
	}
}

// P10: exactly the bytes of Data change, and none of the objects that lie before and behind.
func TestWriteEveryStretch(t *testing.T) {
	for _, size := range []int{1, 8, 9, 63, 64, 65, 100} {
		h := open(t, 2, 3, 32)
		for i, n := range []int{64, size, 64} {
			wantReply(t, "P7", h, 0, alloc(n), done+two(i))
			wantReply(t, "P7", h, 1, alloc(n), done+two(i))
			fill(t, h, 0, i, pattern(i, n))
			fill(t, h, 1, i, pattern(i+5, n))
		}
		data := pattern(1, size)
		for off := 0; off <= size+1; off++ {
			for n := 0; n <= 64; n++ {
				piece := pattern(off+n, n)
				if off+n > size {
					wantReply(t, "P10", h, 0, write(1, off, piece), errRange)
				} else {
					wantReply(t, "P10", h, 0, write(1, off, piece), done)
					data = data[:off] + piece + data[off+n:]
				}
				wantBytes(t, "P10", h, 0, 1, data)
			}
		}
		for _, off := range []int{size + 1, 256, 257, 65472, 65535} {
			wantReply(t, "P10", h, 0, write(1, off, ""), errRange)
			wantReply(t, "P10", h, 0, write(1, off, "a"), errRange)
			wantReply(t, "P10", h, 0, write(1, off, pattern(0, 64)), errRange)
		}
		wantBytes(t, "P10", h, 0, 1, data)
		for i, n := range []int{64, size, 64} {
			if i != 1 {
				wantBytes(t, "P10", h, 0, i, pattern(i, n))
			}
			wantBytes(t, "P10", h, 1, i, pattern(i+5, n))
		}
	}
}

func TestWriteEveryByte(t *testing.T) {
	h := open(t, 1, 1, 32)
	wantReply(t, "P7", h, 0, alloc(256), done+two(0))
	all := make([]byte, 256)
	for i := range all {
		all[i] = byte(255 - i)
		wantReply(t, "P10", h, 0, write(0, i, string(all[i:i+1])), done)
	}
	wantBytes(t, "P10", h, 0, 0, string(all))
}

// P9: a reply stays what it was.
func TestReplyIsNotChangedLater(t *testing.T) {
	h := open(t, 1, 1, 1)
	wantReply(t, "P7", h, 0, alloc(8), done+two(0))
	fill(t, h, 0, 0, "12345678")
	before, _ := h.Ask(0, read(0, 0, 8))
	fill(t, h, 0, 0, "abcdefgh")
	if before != done+"12345678" {
		t.Errorf("P9: the reply became % x", before)
	}
}

func TestInfoOfEverySize(t *testing.T) {
	h := open(t, 1, 1, 32)
	for size := 1; size <= 256; size++ {
		handle := 16 * (size - 1)
		wantReply(t, "P7", h, 0, alloc(size), done+two(handle))
		wantReply(t, "P14", h, 0, info(handle), "\x00"+two(size)+"\x07")
		wantReply(t, "P8", h, 0, free(handle), done)
		wantReply(t, "P14", h, 0, info(handle), errStale)
	}
}

// A slot of generation 4095 holds as any other does; once it is empty, nothing is laid into it any more.
func TestSlotsAreUsedUp(t *testing.T) {
	h := open(t, 2, 2, 2)
	for number := range 2 {
		for generation := range 4096 {
			handle := 16*generation + number
			wantReply(t, "P7", h, 0, alloc(1), done+two(handle))
			if generation == 4095 {
				wantView(t, h, 0, 1, 1)
				wantReply(t, "P14", h, 0, info(handle), done+two(1)+allRights)
				wantReply(t, "P10", h, 0, write(handle, 0, "a"), done)
				wantReply(t, "P9", h, 0, read(handle, 0, 1), done+"a")
			}
			wantReply(t, "P8", h, 0, free(handle), done)
		}
		wantReply(t, "P6", h, 0, info(16*4095+number), errStale)
		wantReply(t, "P6", h, 0, info(number), errStale)
	}
	wantView(t, h, 0, 0, 0)
	wantReply(t, "P7", h, 0, alloc(1), errFull)
	wantReply(t, "P7", h, 0, alloc(16), errFull)
	wantReply(t, "P7", h, 0, alloc(17), errRoom)
	wantReply(t, "P7", h, 0, alloc(257), errRange)
	wantView(t, h, 0, 0, 0)
	wantReply(t, "P7", h, 1, alloc(16), done+two(0))
}

func TestGreatestHandle(t *testing.T) {
	h := open(t, 1, 16, 16)
	for number := range 15 {
		wantReply(t, "P7", h, 0, alloc(8), done+two(number))
	}
	for generation := range 4095 {
		wantReply(t, "P7", h, 0, alloc(8), done+two(16*generation+15))
		wantReply(t, "P8", h, 0, free(16*generation+15), done)
	}
	wantReply(t, "P7", h, 0, alloc(8), "\x00\xff\xff")
	wantReply(t, "P14", h, 0, info(65535), done+two(8)+allRights)
	wantReply(t, "P8", h, 0, free(65535), done)
	wantReply(t, "P7", h, 0, alloc(8), errFull)
	wantReply(t, "P8", h, 0, free(7), done)
	wantReply(t, "P7", h, 0, alloc(8), done+two(16+7))
}

// P7: what others have taken is theirs: each tenant has all of its own.
func TestTenantsHaveTheirOwn(t *testing.T) {
	h := open(t, 4, 16, 32)
	for tenant := range 4 {
		for number := range 16 {
			wantReply(t, "P7", h, tenant, alloc(16), done+two(number))
			fill(t, h, tenant, number, pattern(16*tenant+number, 16))
		}
		wantView(t, h, tenant, 16, 32)
	}
	for tenant := range 4 {
		for number := range 16 {
			wantBytes(t, "P10", h, tenant, number, pattern(16*tenant+number, 16))
		}
	}
	for number := range 16 {
		wantReply(t, "P8", h, 2, free(number), done)
	}
	for tenant := range 4 {
		if tenant != 2 {
			wantView(t, h, tenant, 16, 32)
			wantBytes(t, "P8", h, tenant, 15, pattern(16*tenant+15, 16))
		}
	}
	wantView(t, h, 2, 0, 0)
}
