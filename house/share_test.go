package house_test

import (
	"strings"
	"testing"

	"tenure/api"
	"tenure/house"
)

// Examples 3 to 6, from where 1 and 2 leave off.
func TestExamplesOfWhatIsShared(t *testing.T) {
	h := open(t, 2, 3, 4)
	wantReply(t, "P7", h, 0, "\x01\x00\x0a", "\x00\x00\x00")
	wantReply(t, "P10", h, 0, "\x04\x00\x00\x00\x08ab", "\x00")
	wantReply(t, "P11", h, 0, "\x05\x00\x00\x00\x08\x00\x02\x05", "\x00\x00\x01")
	wantReply(t, "P14", h, 0, "\x09\x00\x01", "\x00\x00\x02\x05")
	wantReply(t, "P9", h, 0, "\x03\x00\x01\x00\x00\x00\x02", "\x00ab")
	wantReply(t, "P10", h, 0, "\x04\x00\x01\x00\x00z", "\x05")
	wantReply(t, "P11", h, 0, "\x05\x00\x01\x00\x00\x00\x01\x02", "\x05")
	wantReply(t, "P13", h, 0, "\x08\x00\x00", "\x09")
	wantReply(t, "P12", h, 0, "\x06\x00\x01\x01", "\x00\x00\x00")
	wantReply(t, "P9", h, 1, "\x03\x00\x00\x00\x00\x00\x02", "\x00ab")
	wantReply(t, "P12", h, 0, "\x06\x00\x01\x02", "\x03")
	wantView(t, h, 1, 1, 0)
	wantReply(t, "P13", h, 0, "\x07\x00\x00", "\x00")
	wantReply(t, "P13", h, 0, "\x03\x00\x01\x00\x00\x00\x01", "\x04")
	wantReply(t, "P13", h, 1, "\x03\x00\x00\x00\x00\x00\x01", "\x04")
	wantView(t, h, 1, 0, 0)
	wantReply(t, "P11", h, 0, "\x05\x00\x00\x00\x00\x00\x0a\x07", "\x00\x00\x11")
	wantReply(t, "P8", h, 0, "\x02\x00\x11", "\x09")
	wantReply(t, "P8", h, 0, "\x02\x00\x00", "\x00")
	wantReply(t, "P8", h, 0, "\x09\x00\x11", "\x04")
	wantReply(t, "P7", h, 0, "\x01\x00\x20", "\x00\x00\x10")
	wantBytes(t, "P7", h, 0, 16, strings.Repeat("\x00", 32))
}

// tree lays two roots of 8 bytes, and below the first one: 2 and 5 from 0, 3 from 2, 4 from 3; below the second one: 6.
func tree(t *testing.T) *house.House {
	t.Helper()
	h := open(t, 2, 7, 2)
	wantReply(t, "P7", h, 0, alloc(8), done+two(0))
	wantReply(t, "P7", h, 0, alloc(8), done+two(1))
	for i, from := range []int{0, 2, 3, 0, 1} {
		wantReply(t, "P11", h, 0, derive(from, 0, 8, 7), done+two(i+2))
	}
	return h
}

// wantHeld: of the handles of the tree these serve, and all others are stale.
func wantHeld(t *testing.T, promise string, h *house.House, held ...int) {
	t.Helper()
	wantView(t, h, 0, len(held), 2)
	for handle := range 7 {
		reply := errStale
		for _, x := range held {
			if x == handle {
				reply = done + two(8) + allRights
			}
		}
		wantReply(t, promise, h, 0, info(handle), reply)
	}
}

// P11: every Rights from every rights, of which the bits have to be there, and MayShare besides.
func TestDeriveEveryRights(t *testing.T) {
	for has := range 8 {
		for rights := range 256 {
			h := open(t, 1, 3, 1)
			wantReply(t, "P7", h, 0, alloc(8), done+two(0))
			wantReply(t, "P11", h, 0, derive(0, 0, 8, has), done+two(1))
			if has < 4 || rights|has != has {
				wantReply(t, "P11", h, 0, derive(1, 2, 5, rights), errRights)
				wantReply(t, "P11", h, 0, derive(1, 8, 1, rights), errRights)
				wantView(t, h, 0, 2, 1)
				continue
			}
			wantReply(t, "P11", h, 0, derive(1, 8, 1, rights), errRange)
			wantReply(t, "P11", h, 0, derive(1, 2, 5, rights), done+two(2))
			wantReply(t, "P11, P14", h, 0, info(2), done+two(5)+string([]byte{byte(rights)}))
			wantReply(t, "P11, P14", h, 0, info(1), done+two(8)+string([]byte{byte(has)}))
			wantView(t, h, 0, 3, 1)
		}
	}
}

// P11: every Off and Len, from the root and from a stretch in its midst: within these, and from the byte that is meant.
func TestDeriveEveryStretch(t *testing.T) {
	for _, x := range []struct{ handle, first, length int }{{0, 0, 20}, {1, 3, 11}} {
		h := open(t, 1, 3, 3)
		data := pattern(1, 20)
		wantReply(t, "P7", h, 0, alloc(20), done+two(0))
		fill(t, h, 0, 0, data)
		wantReply(t, "P11", h, 0, derive(0, 3, 11, 7), done+two(1))
		handle := 2
		for off := range 24 {
			for length := range 24 {
				if off+length > x.length {
					wantReply(t, "P11", h, 0, derive(x.handle, off, length, 7), errRange)
					continue
				}
				wantReply(t, "P11", h, 0, derive(x.handle, off, length, 7), done+two(handle))
				wantReply(t, "P14", h, 0, info(handle), done+two(length)+allRights)
				first := x.first + off
				wantReply(t, "P11, P9", h, 0, read(handle, 0, length), done+data[first:first+length])
				wantReply(t, "P11, P9", h, 0, read(handle, 0, length+1), errRange)
				wantReply(t, "P11, P10", h, 0, write(handle, 1, strings.Repeat("z", length)), errRange)
				data = data[:first] + pattern(handle, length) + data[first+length:]
				wantReply(t, "P11, P10", h, 0, write(handle, 0, pattern(handle, length)), done)
				wantBytes(t, "P11, P10", h, 0, 0, data)
				wantBytes(t, "P11, P10", h, 0, 1, data[3:14])
				wantReply(t, "P13", h, 0, drop(handle), done)
				handle += 16
			}
		}
		for _, off := range []int{0, 1, 20, 21, 256, 65515, 65516, 65535} {
			for _, length := range []int{21, 256, 257, 65515, 65516, 65535} {
				wantReply(t, "P11", h, 0, derive(x.handle, off, length, 7), errRange)
				wantReply(t, "P11", h, 0, derive(x.handle, length, off, 7), errRange)
			}
		}
		wantView(t, h, 0, 2, 3)
		wantBytes(t, "P11", h, 0, 0, data)
	}
}

// P11: a stretch may be longer than what is read or written at once.
func TestDeriveOfTheGreatestObject(t *testing.T) {
	h := open(t, 1, 3, 32)
	wantReply(t, "P7", h, 0, alloc(256), done+two(0))
	fill(t, h, 0, 0, pattern(3, 256))
	wantReply(t, "P11", h, 0, derive(0, 0, 256, 7), done+two(1))
	wantReply(t, "P14", h, 0, info(1), "\x00\x01\x00\x07")
	wantBytes(t, "P11", h, 0, 1, pattern(3, 256))
	wantReply(t, "P11", h, 0, derive(1, 255, 1, 7), done+two(2))
	wantBytes(t, "P11", h, 0, 2, pattern(3, 256)[255:])
	wantReply(t, "P11", h, 0, derive(1, 255, 2, 7), errRange)
	wantReply(t, "P11", h, 0, derive(1, 1, 256, 7), errRange)
}

// P11, P1: of several errors the one that is named first; and each of them changes nothing.
func TestDeriveErrorsInOrder(t *testing.T) {
	h := open(t, 2, 3, 2)
	wantReply(t, "P7", h, 0, alloc(10), done+two(0))
	fill(t, h, 0, 0, "0123456789")
	wantReply(t, "P11", h, 0, derive(0, 0, 8, 3), done+two(1))
	refuse := func() {
		t.Helper()
		wantReply(t, "P11", h, 0, derive(1, 0, 9, 1), errRights)
		wantReply(t, "P11", h, 0, derive(1, 0, 9, 4), errRights)
		wantReply(t, "P11", h, 0, derive(1, 0, 1, 3), errRights)
		wantReply(t, "P11", h, 0, derive(1, 0, 0, 0), errRights)
		wantReply(t, "P11", h, 0, derive(0, 0, 11, 8), errRights)
		wantReply(t, "P11", h, 0, derive(0, 65535, 65535, 255), errRights)
		wantReply(t, "P11", h, 0, derive(0, 0, 11, 7), errRange)
		wantReply(t, "P11", h, 0, derive(0, 11, 0, 0), errRange)
		wantReply(t, "P11", h, 0, derive(0, 65535, 65535, 0), errRange)
	}
	refuse()
	wantView(t, h, 0, 2, 2)
	wantReply(t, "P11", h, 0, derive(0, 0, 10, 7), done+two(2))
	refuse() // now that no slot is empty
	wantReply(t, "P11", h, 0, derive(0, 0, 10, 7), errFull)
	wantReply(t, "P11", h, 0, derive(0, 10, 0, 0), errFull)
	wantReply(t, "P11", h, 0, derive(2, 0, 10, 0), errFull)
	wantReply(t, "P6", h, 0, derive(16, 0, 10, 0), errStale)
	wantReply(t, "P6", h, 1, derive(0, 0, 10, 0), errStale)
	wantView(t, h, 0, 3, 2)
	wantView(t, h, 1, 0, 0)
	wantBytes(t, "P11", h, 0, 0, "0123456789")
	wantReply(t, "P14", h, 0, info(1), done+two(8)+"\x03")
	wantReply(t, "P13", h, 0, drop(2), done)
	wantReply(t, "P11", h, 0, derive(0, 0, 10, 7), done+two(16+2))
}

// P11: the lowest slot that is empty, of the generation behind its last one, whether a root lay in it or not.
func TestDeriveIntoTheNextSlot(t *testing.T) {
	h := open(t, 2, 16, 16)
	for number := range 16 {
		wantReply(t, "P7", h, 0, alloc(8), done+two(number))
		wantReply(t, "P7", h, 1, alloc(8), done+two(number))
	}
	wantReply(t, "P11", h, 0, derive(4, 0, 8, 7), errFull)
	for _, number := range []int{9, 3, 15, 0} {
		wantReply(t, "P8", h, 0, free(number), done)
	}
	for _, number := range []int{0, 3, 9, 15} {
		wantReply(t, "P11", h, 0, derive(4, 0, 8, 7), done+two(16+number))
	}
	wantReply(t, "P11", h, 0, derive(4, 0, 8, 7), errFull)
	wantReply(t, "P13", h, 0, drop(16+9), done)
	wantReply(t, "P7", h, 0, alloc(8), done+two(32+9))
	wantReply(t, "P6", h, 0, info(9), errStale)
	wantReply(t, "P6", h, 0, info(16+9), errStale)
	wantView(t, h, 0, 16, 13)
	wantView(t, h, 1, 16, 16)
}

// P11: a slot is used up by what is derived as by roots, whether it is emptied by Drop or by Revoke.
func TestDeriveUsesSlotsUp(t *testing.T) {
	h := open(t, 1, 2, 1)
	wantReply(t, "P7", h, 0, alloc(8), done+two(0))
	for generation := range 4096 {
		handle := 16*generation + 1
		wantReply(t, "P11", h, 0, derive(0, 1, 2, 3), done+two(handle))
		wantReply(t, "P11", h, 0, derive(0, 1, 2, 3), errFull)
		wantReply(t, "P14", h, 0, info(handle), done+two(2)+"\x03")
		if generation%2 == 0 {
			wantReply(t, "P13", h, 0, drop(handle), done)
		} else {
			wantReply(t, "P13", h, 0, revoke(0), done)
		}
		wantReply(t, "P13", h, 0, info(handle), errStale)
		wantView(t, h, 0, 1, 1)
	}
	wantReply(t, "P11", h, 0, derive(0, 1, 2, 3), errFull)
	wantReply(t, "P11", h, 0, derive(0, 1, 8, 3), errRange)
	wantReply(t, "P11", h, 0, derive(0, 1, 8, 8), errRights)
	wantReply(t, "P8", h, 0, free(0), done)
	wantReply(t, "P7", h, 0, alloc(8), done+two(16))
	wantReply(t, "P11", h, 0, derive(16, 0, 8, 7), errFull)
	wantReply(t, "P7", h, 0, alloc(1), errRoom)
}

// P15, P7: what is derived takes slots and no chunks.
func TestDeriveTakesNoChunks(t *testing.T) {
	h := open(t, 1, 16, 2)
	wantReply(t, "P7", h, 0, alloc(8), done+two(0))
	for number := 1; number < 15; number++ {
		wantReply(t, "P11", h, 0, derive(number-1, 0, 8, 7), done+two(number))
		wantView(t, h, 0, number+1, 1)
	}
	wantReply(t, "P7", h, 0, alloc(9), errRoom)
	wantReply(t, "P7", h, 0, alloc(8), done+two(15))
	wantReply(t, "P13", h, 0, drop(7), done)
	wantView(t, h, 0, 8, 2)
	wantReply(t, "P7", h, 0, alloc(1), errRoom)
	wantReply(t, "P13", h, 0, revoke(0), done)
	wantView(t, h, 0, 2, 2)
	wantReply(t, "P8", h, 0, free(0), done)
	wantView(t, h, 0, 1, 1)
}

// P10, P11: all that is derived from an object are the same bytes, and no bytes of another one.
func TestDerivedStretchesAreTheSameBytes(t *testing.T) {
	h := open(t, 1, 6, 4)
	wantReply(t, "P7", h, 0, alloc(10), done+two(0))
	wantReply(t, "P7", h, 0, alloc(10), done+two(1))
	fill(t, h, 0, 0, "0123456789")
	fill(t, h, 0, 1, "ABCDEFGHIJ")
	wantReply(t, "P11", h, 0, derive(0, 2, 6, 7), done+two(2))
	wantReply(t, "P11", h, 0, derive(0, 4, 6, 3), done+two(3))
	wantReply(t, "P11", h, 0, derive(2, 1, 4, 1), done+two(4))
	wantReply(t, "P11", h, 0, derive(1, 2, 6, 7), done+two(5))
	wantReply(t, "P10", h, 0, write(3, 1, "xy"), done)
	wantBytes(t, "P10", h, 0, 0, "01234xy789")
	wantBytes(t, "P10", h, 0, 2, "234xy7")
	wantBytes(t, "P10", h, 0, 3, "4xy789")
	wantBytes(t, "P10", h, 0, 4, "34xy")
	wantReply(t, "P10", h, 0, write(0, 4, "uvw"), done)
	wantBytes(t, "P10", h, 0, 4, "3uvw")
	wantBytes(t, "P10", h, 0, 1, "ABCDEFGHIJ")
	wantBytes(t, "P10", h, 0, 5, "CDEFGH")
	wantReply(t, "P13", h, 0, revoke(0), done)
	wantBytes(t, "P13", h, 0, 0, "0123uvw789")
	wantReply(t, "P13", h, 0, drop(5), done)
	wantBytes(t, "P13", h, 0, 1, "ABCDEFGHIJ")
}

// P13: all below, at once and by way of others; neither the slot itself, nor what it comes from, nor what else comes from that.
func TestRevokeEmptiesAllBelow(t *testing.T) {
	for handle, held := range [][]int{{0, 1, 6}, {0, 1, 2, 3, 4, 5}, {0, 1, 2, 5, 6}, {0, 1, 2, 3, 5, 6}, {0, 1, 2, 3, 4, 5, 6}, {0, 1, 2, 3, 4, 5, 6}, {0, 1, 2, 3, 4, 5, 6}} {
		h := tree(t)
		wantHeld(t, "P11", h, 0, 1, 2, 3, 4, 5, 6)
		for range 2 {
			wantReply(t, "P13", h, 0, revoke(handle), done)
			wantHeld(t, "P13", h, held...)
		}
	}
}

// P13: the slot itself and all below it; a root stays, with all below it.
func TestDropEmptiesItselfAndAllBelow(t *testing.T) {
	for handle, held := range [][]int{nil, nil, {0, 1, 5, 6}, {0, 1, 2, 5, 6}, {0, 1, 2, 3, 5, 6}, {0, 1, 2, 3, 4, 6}, {0, 1, 2, 3, 4, 5}} {
		h := tree(t)
		if held == nil {
			wantReply(t, "P13", h, 0, drop(handle), errRoot)
			wantHeld(t, "P13", h, 0, 1, 2, 3, 4, 5, 6)
			continue
		}
		wantReply(t, "P13", h, 0, drop(handle), done)
		wantHeld(t, "P13", h, held...)
		wantReply(t, "P6", h, 0, drop(handle), errStale)
		wantReply(t, "P6", h, 0, revoke(handle), errStale)
		wantHeld(t, "P6", h, held...)
	}
}

// P13: a root is no less one with nothing below it.
func TestDropOfARootAlone(t *testing.T) {
	h := open(t, 1, 1, 1)
	wantReply(t, "P7", h, 0, alloc(3), done+two(0))
	fill(t, h, 0, 0, "abc")
	wantReply(t, "P13", h, 0, drop(0), errRoot)
	wantReply(t, "P13", h, 0, revoke(0), done)
	wantReply(t, "P13", h, 0, drop(0), errRoot)
	wantView(t, h, 0, 1, 1)
	wantBytes(t, "P13", h, 0, 0, "abc")
}

// P8: of what is derived nothing is freed, and all of it goes with its root.
func TestFreeOfATree(t *testing.T) {
	for handle := 2; handle < 7; handle++ {
		h := tree(t)
		wantReply(t, "P8", h, 0, free(handle), errRoot)
		wantHeld(t, "P8", h, 0, 1, 2, 3, 4, 5, 6)
	}
	h := tree(t)
	wantReply(t, "P8", h, 0, free(0), done)
	wantView(t, h, 0, 2, 1)
	for _, handle := range []int{0, 2, 3, 4, 5} {
		wantReply(t, "P8", h, 0, info(handle), errStale)
	}
	wantReply(t, "P8", h, 0, info(6), done+two(8)+allRights)
	wantReply(t, "P8", h, 0, free(1), done)
	wantView(t, h, 0, 0, 0)
	wantReply(t, "P8", h, 0, info(6), errStale)
}

// P13: neither Revoke nor Drop asks for any right.
func TestRevokeAndDropNeedNoRights(t *testing.T) {
	for rights := range 8 {
		h := open(t, 2, 3, 1)
		wantReply(t, "P7", h, 0, alloc(8), done+two(0))
		wantReply(t, "P11", h, 0, derive(0, 0, 0, rights), done+two(1))
		if rights >= api.MayShare {
			wantReply(t, "P12", h, 0, grant(1, 1), done+two(0))
		}
		wantReply(t, "P13", h, 0, revoke(1), done)
		wantView(t, h, 0, 2, 1)
		wantView(t, h, 1, 0, 0)
		wantReply(t, "P13", h, 0, drop(1), done)
		wantView(t, h, 0, 1, 1)
	}
}

// P13: what lies in a slot now has nothing to do with what came from, or lay in, that slot before.
func TestWhatLayInASlotBefore(t *testing.T) {
	h := open(t, 1, 4, 4)
	wantReply(t, "P7", h, 0, alloc(8), done+two(0))
	wantReply(t, "P11", h, 0, derive(0, 0, 8, 7), done+two(1))
	wantReply(t, "P11", h, 0, derive(1, 0, 8, 7), done+two(2))
	wantReply(t, "P13", h, 0, drop(1), done)
	wantReply(t, "P7", h, 0, alloc(8), done+two(16+1))
	wantReply(t, "P11", h, 0, derive(0, 0, 8, 7), done+two(16+2))
	wantReply(t, "P11", h, 0, derive(16+1, 0, 8, 7), done+two(3))
	wantReply(t, "P13", h, 0, drop(16+1), errRoot)
	wantReply(t, "P13", h, 0, revoke(16+1), done)
	wantReply(t, "P13", h, 0, info(16+2), done+two(8)+allRights)
	wantReply(t, "P13", h, 0, info(3), errStale)
	wantReply(t, "P13", h, 0, revoke(0), done)
	wantReply(t, "P13", h, 0, info(16+2), errStale)
	wantReply(t, "P13", h, 0, info(16+1), done+two(8)+allRights)
	wantReply(t, "P8", h, 0, free(0), done)
	wantReply(t, "P8", h, 0, info(16+1), done+two(8)+allRights)
	wantReply(t, "P11", h, 0, derive(16+1, 0, 8, 7), done+two(16))
	wantReply(t, "P8", h, 0, free(16), errRoot)
	wantReply(t, "P13", h, 0, drop(16), done)
	wantView(t, h, 0, 1, 1)
}

// P13: whoever holds what is below, and in whichever slot, it is gone; what lies with them besides stays.
func TestRevokeAndDropAcrossTenants(t *testing.T) {
	for _, request := range []string{revoke(1), drop(1), revoke(0)} {
		h := open(t, 3, 4, 4)
		wantReply(t, "P7", h, 1, alloc(8), done+two(0))
		wantReply(t, "P7", h, 1, alloc(8), done+two(1))
		wantReply(t, "P8", h, 1, free(0), done)
		wantReply(t, "P7", h, 2, alloc(8), done+two(0))
		root := give(t, h, 1, 1, 2)
		wantReply(t, "P7", h, 0, alloc(8), done+two(0))
		wantReply(t, "P11", h, 0, derive(0, 0, 8, 7), done+two(1))
		first := give(t, h, 0, 1, 2)
		second := give(t, h, 2, first, 1)
		third := give(t, h, 1, second, 0)
		wantReply(t, "P13", h, 0, request, done)
		wantReply(t, "P13", h, 2, info(first), errStale)
		wantReply(t, "P13", h, 1, info(second), errStale)
		wantReply(t, "P13", h, 0, info(third), errStale)
		wantReply(t, "P13", h, 2, info(root), done+two(8)+allRights)
		wantView(t, h, 1, 1, 1)
		wantView(t, h, 2, 2, 1)
		if request == revoke(1) {
			wantView(t, h, 0, 2, 1)
		} else {
			wantView(t, h, 0, 1, 1)
		}
	}
}

// P13: whom something was granted to, gives it up for itself and those below alone.
func TestDropOfWhatWasGranted(t *testing.T) {
	h := open(t, 2, 3, 1)
	wantReply(t, "P7", h, 0, alloc(8), done+two(0))
	wantReply(t, "P11", h, 0, derive(0, 0, 8, 7), done+two(1))
	granted := give(t, h, 0, 1, 1)
	wantReply(t, "P11", h, 1, derive(granted, 0, 4, 7), done+two(1))
	wantReply(t, "P8", h, 1, free(granted), errRoot)
	wantReply(t, "P13", h, 1, drop(granted), done)
	wantView(t, h, 1, 0, 0)
	wantView(t, h, 0, 2, 1)
	wantReply(t, "P13", h, 0, info(1), done+two(8)+allRights)
	wantReply(t, "P11", h, 0, derive(1, 0, 8, 7), done+two(2))
}

// P6: bytes that are no request change nothing, whatever they begin like.
func TestBytesNearRevokeAndDrop(t *testing.T) {
	h := tree(t)
	for _, right := range []string{derive(0, 0, 8, 7), revoke(0), drop(2), free(0)} {
		for n := range right {
			wantReply(t, "P6", h, 0, right[:n], errForm)
		}
		wantReply(t, "P6", h, 0, right+"\x00", errForm)
		wantReply(t, "P6", h, 0, right+right, errForm)
	}
	wantHeld(t, "P6", h, 0, 1, 2, 3, 4, 5, 6)
}

// P13: as deep as a tenant's slots allow, each of the slots below the one before it.
func TestRisingRowOfSlots(t *testing.T) {
	for _, request := range []string{revoke(0), drop(1)} {
		h := open(t, 1, 16, 32)
		wantReply(t, "P7", h, 0, alloc(256), done+two(0))
		for number := 1; number < 16; number++ {
			wantReply(t, "P11", h, 0, derive(number-1, 1, 256-number, 7), done+two(number))
		}
		wantReply(t, "P10", h, 0, write(15, 0, "z"), done)
		wantReply(t, "P9", h, 0, read(0, 14, 3), done+"\x00z\x00")
		wantReply(t, "P9", h, 0, read(7, 7, 3), done+"\x00z\x00")
		wantReply(t, "P13", h, 0, request, done)
		wantView(t, h, 0, 1, 32)
		for number := 1; number < 16; number++ {
			wantReply(t, "P13", h, 0, info(number), errStale)
			wantReply(t, "P11", h, 0, derive(0, 0, 1, 0), done+two(16+number))
		}
	}
}

// P13: the same with each of the slots below the one behind it.
func TestFallingRowOfSlots(t *testing.T) {
	for _, request := range []string{revoke(15), drop(16 + 14)} {
		h := open(t, 1, 16, 16)
		for number := range 16 {
			wantReply(t, "P7", h, 0, alloc(8), done+two(number))
		}
		from := 15
		for number := 14; number >= 0; number-- {
			wantReply(t, "P8", h, 0, free(number), done)
			wantReply(t, "P11", h, 0, derive(from, 0, 8, 7), done+two(16+number))
			from = 16 + number
		}
		wantView(t, h, 0, 16, 1)
		wantReply(t, "P13", h, 0, request, done)
		wantView(t, h, 0, 1, 1)
		for number := range 15 {
			wantReply(t, "P13", h, 0, info(16+number), errStale)
		}
		wantReply(t, "P13", h, 0, info(15), done+two(8)+allRights)
	}
}
