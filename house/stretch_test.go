package house_test

import (
	"strings"
	"testing"

	"tenure/api"
	"tenure/house"
)

// What P8, P9, P10 and P14 say of stretches, of rights and of what lies below a slot.

// give grants what a tenant holds by a handle to a tenant, and answers the handle by which that one holds it.
func give(t *testing.T, h *house.House, tenant, handle, to int) int {
	t.Helper()
	reply, e := h.Ask(tenant, grant(handle, to))
	if len(reply) != 3 || reply[:1] != done || e != api.OK {
		t.Fatalf("P12: Ask(%d, % x) = % x, %d; want a handle", tenant, grant(handle, to), reply, e)
	}
	return int(reply[1])<<8 | int(reply[2])
}

// By the handle 1 four bytes are held out of the midst of ten, with every sum of rights.
func TestEveryRights(t *testing.T) {
	for rights := range 8 {
		h := open(t, 1, 2, 2)
		wantReply(t, "P7", h, 0, alloc(10), done+two(0))
		fill(t, h, 0, 0, "0123456789")
		wantReply(t, "P11", h, 0, derive(0, 3, 4, rights), done+two(1))
		wantReply(t, "P14", h, 0, info(1), "\x00\x00\x04"+string([]byte{byte(rights)}))
		reads := map[string]string{
			read(1, 0, 4): done + "3456", read(1, 3, 1): done + "6", read(1, 4, 0): done, read(1, 0, 0): done,
			read(1, 0, 5): errRange, read(1, 4, 1): errRange, read(1, 5, 0): errRange, read(1, 0, 65): errRange, read(1, 65535, 65535): errRange,
		}
		for request, reply := range reads {
			wantReply(t, "P9", h, 0, request, ifRight(rights&api.MayRead, reply))
		}
		for _, request := range []string{write(1, 0, "abcde"), write(1, 3, "ab"), write(1, 4, "a"), write(1, 5, ""), write(1, 65535, "a")} {
			wantReply(t, "P10", h, 0, request, ifRight(rights&api.MayWrite, errRange))
		}
		wantReply(t, "P10", h, 0, write(1, 4, ""), ifRight(rights&api.MayWrite, done))
		wantBytes(t, "P10", h, 0, 0, "0123456789")
		wantReply(t, "P10", h, 0, write(1, 0, "abcd"), ifRight(rights&api.MayWrite, done))
		if rights&api.MayWrite == 0 {
			wantBytes(t, "P10", h, 0, 0, "0123456789")
		} else {
			wantBytes(t, "P10", h, 0, 0, "012abcd789")
		}
	}
}

func ifRight(right int, reply string) string {
	if right == 0 {
		return errRights
	}
	return reply
}

func TestStretchOfNoBytes(t *testing.T) {
	h := open(t, 1, 3, 1)
	wantReply(t, "P7", h, 0, alloc(8), done+two(0))
	wantReply(t, "P11", h, 0, derive(0, 8, 0, 7), done+two(1))
	wantReply(t, "P11", h, 0, derive(0, 0, 0, 7), done+two(2))
	for handle := 1; handle <= 2; handle++ {
		wantReply(t, "P14", h, 0, info(handle), done+two(0)+allRights)
		wantReply(t, "P9", h, 0, read(handle, 0, 0), done)
		wantReply(t, "P9", h, 0, read(handle, 0, 1), errRange)
		wantReply(t, "P9", h, 0, read(handle, 1, 0), errRange)
		wantReply(t, "P10", h, 0, write(handle, 0, ""), done)
		wantReply(t, "P10", h, 0, write(handle, 0, "a"), errRange)
		wantReply(t, "P10", h, 0, write(handle, 1, ""), errRange)
	}
	wantView(t, h, 0, 3, 1)
	wantBytes(t, "P10", h, 0, 0, strings.Repeat("\x00", 8))
}

// P8: who holds no root frees nothing, with all rights too; P15: what others hold takes none of their chunks.
func TestFreeOfWhatIsNoRoot(t *testing.T) {
	h := open(t, 2, 3, 4)
	wantReply(t, "P7", h, 0, alloc(10), done+two(0))
	wantReply(t, "P11", h, 0, derive(0, 0, 10, 7), done+two(1))
	granted := give(t, h, 0, 1, 1)
	wantReply(t, "P8", h, 0, free(1), errRoot)
	wantReply(t, "P8", h, 1, free(granted), errRoot)
	wantView(t, h, 0, 2, 2)
	wantView(t, h, 1, 1, 0)
	wantReply(t, "P8", h, 0, info(1), done+two(10)+allRights)
	wantReply(t, "P8", h, 1, info(granted), done+two(10)+allRights)
	wantReply(t, "P7", h, 1, alloc(32), done+two(1))
	wantView(t, h, 1, 2, 4)
}

// P8: Free empties what comes from the root, at once and by way of others, with whichever tenant and in whichever
// slot it lies, and nothing that comes from another root.
func TestFreeEmptiesAllBelow(t *testing.T) {
	h := open(t, 3, 4, 4)
	wantReply(t, "P7", h, 0, alloc(8), done+two(0))
	wantReply(t, "P7", h, 0, alloc(8), done+two(1))
	wantReply(t, "P7", h, 1, alloc(8), done+two(0))
	kept := give(t, h, 0, 1, 2)
	child := give(t, h, 0, 0, 2)
	wantReply(t, "P11", h, 2, derive(child, 1, 4, 5), done+two(2))
	grandchild := give(t, h, 2, 2, 1)
	give(t, h, 1, grandchild, 0)
	give(t, h, 1, 0, 0)
	give(t, h, 2, kept, 2)
	wantView(t, h, 0, 4, 2)
	wantView(t, h, 1, 2, 1)
	wantView(t, h, 2, 4, 0)
	wantReply(t, "P8", h, 0, free(0), done)
	wantView(t, h, 0, 2, 1)
	wantView(t, h, 1, 1, 1)
	wantView(t, h, 2, 2, 0)
	for _, x := range []struct{ tenant, handle int }{{0, 0}, {0, 2}, {1, 1}, {2, 1}, {2, 2}} {
		wantReply(t, "P8", h, x.tenant, info(x.handle), errStale)
	}
	for _, x := range []struct{ tenant, handle int }{{0, 1}, {0, 3}, {1, 0}, {2, 0}, {2, 3}} {
		wantReply(t, "P8", h, x.tenant, info(x.handle), done+two(8)+allRights)
	}
	wantReply(t, "P7", h, 0, alloc(24), done+two(16))
	wantReply(t, "P7", h, 2, alloc(1), done+two(17))
}

// P8: as deep as a house can be: of all its slots each comes from another one, those of lower tenants from those of higher ones.
func TestFreeEmptiesTheDeepestRow(t *testing.T) {
	h := open(t, 4, 16, 32)
	wantReply(t, "P7", h, 3, alloc(256), done+two(0))
	holder, handle := 3, 0
	for i := 1; i < 64; i++ {
		if i%16 == 0 {
			handle = give(t, h, holder, handle, holder-1)
			holder--
			continue
		}
		wantReply(t, "P11", h, holder, derive(handle, 1, 256-i+i/16, 7), done+two(i%16))
		handle = i % 16
	}
	wantReply(t, "P14", h, 0, info(15), done+two(196)+allRights)
	wantReply(t, "P10", h, 0, write(15, 0, "z"), done)
	wantReply(t, "P9", h, 3, read(0, 59, 3), done+"\x00z\x00")
	wantReply(t, "P9", h, 1, read(0, 28, 3), done+"\x00\x00z")
	wantReply(t, "P8", h, 3, free(0), done)
	for tenant := range 4 {
		wantView(t, h, tenant, 0, 0)
	}
}
