package house_test

import (
	"strings"
	"testing"

	"tenure/api"
	"tenure/house"
)

// Grant (P12), and what the other promises say of what is granted.

// ofFour opens a house in which tenant 0 holds, of an object of 20 bytes, four from the fifth on by the handle 1, with these rights.
func ofFour(t *testing.T, tenants, rights int) *house.House {
	t.Helper()
	h := open(t, tenants, 4, 4)
	wantReply(t, "P7", h, 0, alloc(20), done+two(0))
	fill(t, h, 0, 0, "0123456789abcdefghij")
	wantReply(t, "P11", h, 0, derive(0, 5, 4, rights), done+two(1))
	return h
}

// P12, P14: the same stretch with the same rights, of whichever rights that have MayShare.
func TestGrantEveryRights(t *testing.T) {
	for rights := range 8 {
		for to := range 3 {
			h := ofFour(t, 3, rights)
			if rights < 4 {
				wantReply(t, "P12", h, 0, grant(1, to), errRights)
				wantView(t, h, 0, 2, 3)
				wantView(t, h, 1, 0, 0)
				wantView(t, h, 2, 0, 0)
				continue
			}
			granted := 0
			if to == 0 {
				granted = 2
			}
			wantReply(t, "P12", h, 0, grant(1, to), done+two(granted))
			what := done + two(4) + string([]byte{byte(rights)})
			wantReply(t, "P14", h, to, info(granted), what)
			wantReply(t, "P14", h, 0, info(1), what)
			wantReply(t, "P9", h, to, read(granted, 0, 4), ifRight(rights&api.MayRead, done+"5678"))
			wantReply(t, "P10", h, to, write(granted, 1, "xy"), ifRight(rights&api.MayWrite, done))
			if rights&api.MayWrite == 0 {
				wantBytes(t, "P10", h, 0, 0, "0123456789abcdefghij")
			} else {
				wantBytes(t, "P10", h, 0, 0, "012345xy89abcdefghij")
			}
		}
	}
}

// P9, P10, P11: by what was granted nothing is done without the right to it, nor outside of the stretch.
func TestBoundsOfWhatIsGranted(t *testing.T) {
	for rights := 4; rights < 8; rights++ {
		h := ofFour(t, 2, rights)
		wantReply(t, "P12", h, 0, grant(1, 1), done+two(0))
		for _, request := range []string{read(0, 0, 5), read(0, 4, 1), read(0, 5, 0), read(0, 0, 65), read(0, 65535, 65535)} {
			wantReply(t, "P9", h, 1, request, ifRight(rights&api.MayRead, errRange))
		}
		for _, request := range []string{write(0, 0, "ABCDE"), write(0, 4, "A"), write(0, 5, ""), write(0, 65535, "A")} {
			wantReply(t, "P10", h, 1, request, ifRight(rights&api.MayWrite, errRange))
		}
		wantReply(t, "P9", h, 1, read(0, 4, 0), ifRight(rights&api.MayRead, done))
		wantReply(t, "P10", h, 1, write(0, 4, ""), ifRight(rights&api.MayWrite, done))
		for more := range 256 {
			if more|rights != rights {
				wantReply(t, "P11", h, 1, derive(0, 0, 4, more), errRights)
			}
		}
		for _, request := range []string{derive(0, 0, 5, rights), derive(0, 4, 1, rights), derive(0, 5, 0, rights), derive(0, 65535, 65535, 0)} {
			wantReply(t, "P11", h, 1, request, errRange)
		}
		wantView(t, h, 1, 1, 0)
		wantBytes(t, "P10", h, 0, 0, "0123456789abcdefghij")
	}
}

// P12: every Tenant, in houses of every number of tenants; among them the tenant that asks.
func TestGrantEveryTenant(t *testing.T) {
	for tenants := 1; tenants <= 4; tenants++ {
		for asker := range tenants {
			for to := range 256 {
				h := open(t, tenants, 2, 2)
				wantReply(t, "P7", h, asker, alloc(9), done+two(0))
				fill(t, h, asker, 0, "123456789")
				switch {
				case to >= tenants:
					wantReply(t, "P12", h, asker, grant(0, to), errTenant)
				case to == asker:
					wantReply(t, "P12", h, asker, grant(0, to), done+two(1))
					wantBytes(t, "P12", h, asker, 1, "123456789")
				default:
					wantReply(t, "P12", h, asker, grant(0, to), done+two(0))
					wantBytes(t, "P12", h, to, 0, "123456789")
				}
				for tenant := range tenants {
					slots, chunks := 0, 0
					if tenant == asker {
						slots, chunks = 1, 2
					}
					if tenant == to {
						slots++
					}
					wantView(t, h, tenant, slots, chunks)
				}
			}
		}
	}
}

// P12, P6, P1: of several errors the one that is named first; and each of them changes nothing.
func TestGrantErrorsInOrder(t *testing.T) {
	h := open(t, 2, 2, 2)
	wantReply(t, "P7", h, 0, alloc(10), done+two(0))
	fill(t, h, 0, 0, "0123456789")
	wantReply(t, "P11", h, 0, derive(0, 0, 8, 3), done+two(1))
	refuse := func() {
		t.Helper()
		for _, to := range []int{0, 1, 2, 3, 4, 255} {
			wantReply(t, "P6", h, 0, grant(0, to)+"\x00", errForm)
			wantReply(t, "P6", h, 0, "\x06\x00"+string([]byte{byte(to)}), errForm)
			wantReply(t, "P6", h, 0, grant(2, to), errStale)
			wantReply(t, "P6", h, 0, grant(16, to), errStale)
			wantReply(t, "P6", h, 0, grant(65535, to), errStale)
			wantReply(t, "P12", h, 0, grant(1, to), errRights)
			if to > 1 {
				wantReply(t, "P12", h, 0, grant(0, to), errTenant)
			}
		}
		wantReply(t, "P12", h, 0, grant(0, 0), errFull)
		wantBytes(t, "P12", h, 0, 0, "0123456789")
		wantReply(t, "P14", h, 0, info(1), done+two(8)+"\x03")
		wantView(t, h, 0, 2, 2)
	}
	refuse()
	wantReply(t, "P6", h, 1, grant(0, 0), errStale)
	wantReply(t, "P6", h, 1, grant(0, 1), errStale)
	wantView(t, h, 1, 0, 0)
	wantReply(t, "P12", h, 0, grant(0, 1), done+two(0))
	wantReply(t, "P12", h, 0, grant(0, 1), done+two(1))
	refuse() // now that tenant 1 has no next slot either
	wantReply(t, "P12", h, 0, grant(0, 1), errFull)
	wantReply(t, "P12", h, 1, grant(1, 1), errFull)
	wantReply(t, "P12", h, 1, grant(1, 0), errFull)
	wantView(t, h, 1, 2, 0)
	wantReply(t, "P13", h, 1, drop(0), done)
	wantReply(t, "P12", h, 0, grant(0, 1), done+two(16))
	wantReply(t, "P12", h, 1, info(16), done+two(10)+allRights)
}

// P12: the slots of the one that gets it matter, not those of the one that asks.
func TestGrantOfAFullTenant(t *testing.T) {
	h := open(t, 2, 1, 1)
	wantReply(t, "P7", h, 0, alloc(8), done+two(0))
	wantReply(t, "P12", h, 0, grant(0, 0), errFull)
	wantReply(t, "P12", h, 0, grant(0, 1), done+two(0))
	wantReply(t, "P12", h, 0, grant(0, 1), errFull)
	wantReply(t, "P12", h, 1, grant(0, 0), errFull)
	wantReply(t, "P7", h, 1, alloc(1), errFull)
	wantView(t, h, 0, 1, 1)
	wantView(t, h, 1, 1, 0)
}

// P12: that tenant's lowest slot that is empty, of the generation behind its last one, whatever lay in it.
func TestGrantIntoTheNextSlot(t *testing.T) {
	h := open(t, 2, 16, 16)
	wantReply(t, "P7", h, 0, alloc(8), done+two(0))
	for number := range 16 {
		wantReply(t, "P7", h, 1, alloc(8), done+two(number))
	}
	wantReply(t, "P12", h, 0, grant(0, 1), errFull)
	for _, number := range []int{11, 2, 15} {
		wantReply(t, "P8", h, 1, free(number), done)
	}
	for _, number := range []int{2, 11, 15} {
		wantReply(t, "P12", h, 0, grant(0, 1), done+two(16+number))
		wantReply(t, "P6", h, 1, info(number), errStale)
		wantReply(t, "P6", h, 0, info(16+number), errStale)
	}
	wantReply(t, "P12", h, 0, grant(0, 1), errFull)
	wantReply(t, "P13", h, 1, drop(16+11), done)
	wantReply(t, "P13", h, 1, drop(16+2), done)
	wantReply(t, "P12", h, 0, grant(0, 1), done+two(32+2))
	wantReply(t, "P7", h, 1, alloc(8), done+two(32+11))
	wantView(t, h, 0, 1, 1)
	wantView(t, h, 1, 16, 14)
}

// A slot is used up by what is granted too; then nothing is laid into it, whoever asks.
func TestGrantUsesSlotsUp(t *testing.T) {
	h := open(t, 2, 2, 2)
	wantReply(t, "P7", h, 0, alloc(8), done+two(0))
	for number := range 2 {
		for generation := range 4096 {
			handle := 16*generation + number
			wantReply(t, "P12", h, 0, grant(0, 1), done+two(handle))
			if generation == 4095 {
				wantReply(t, "P14", h, 1, info(handle), done+two(8)+allRights)
			}
			wantReply(t, "P13", h, 0, revoke(0), done)
			wantReply(t, "P13", h, 1, info(handle), errStale)
		}
	}
	wantView(t, h, 1, 0, 0)
	wantReply(t, "P12", h, 0, grant(0, 1), errFull)
	wantReply(t, "P7", h, 1, alloc(1), errFull)
	wantReply(t, "P7", h, 1, alloc(17), errRoom)
	wantView(t, h, 1, 0, 0)
	wantReply(t, "P12", h, 0, grant(0, 0), done+two(1))
	wantReply(t, "P12", h, 0, grant(0, 0), errFull)
	wantView(t, h, 0, 2, 1)
}

// The greatest handle is reached by what is granted as by anything else.
func TestGrantOfTheGreatestHandle(t *testing.T) {
	h := open(t, 2, 16, 16)
	wantReply(t, "P7", h, 0, alloc(8), done+two(0))
	for number := range 15 {
		wantReply(t, "P7", h, 1, alloc(8), done+two(number))
	}
	for generation := range 4095 {
		wantReply(t, "P12", h, 0, grant(0, 1), done+two(16*generation+15))
		wantReply(t, "P13", h, 1, drop(16*generation+15), done)
	}
	wantReply(t, "P12", h, 0, grant(0, 1), "\x00\xff\xff")
	wantReply(t, "P12", h, 1, grant(65535, 0), done+two(1))
	wantReply(t, "P13", h, 1, drop(65535), done)
	wantView(t, h, 0, 1, 1)
	wantReply(t, "P12", h, 0, grant(0, 1), errFull)
}

// P12: a stretch of no bytes, and one of all bytes that an object can have.
func TestGrantOfTheLeastAndTheGreatest(t *testing.T) {
	h := open(t, 2, 3, 32)
	wantReply(t, "P7", h, 0, alloc(256), done+two(0))
	fill(t, h, 0, 0, pattern(4, 256))
	wantReply(t, "P11", h, 0, derive(0, 256, 0, 7), done+two(1))
	wantReply(t, "P12", h, 0, grant(1, 1), done+two(0))
	wantReply(t, "P12", h, 0, grant(0, 1), done+two(1))
	wantReply(t, "P14", h, 1, info(0), done+two(0)+allRights)
	wantReply(t, "P9", h, 1, read(0, 0, 0), done)
	wantReply(t, "P9", h, 1, read(0, 0, 1), errRange)
	wantReply(t, "P10", h, 1, write(0, 0, "a"), errRange)
	wantReply(t, "P14", h, 1, info(1), "\x00\x01\x00\x07")
	wantBytes(t, "P12", h, 1, 1, pattern(4, 256))
	fill(t, h, 1, 1, pattern(5, 256))
	wantBytes(t, "P12", h, 0, 0, pattern(5, 256))
	wantReply(t, "P7", h, 1, alloc(256), done+two(2))
	wantBytes(t, "P7", h, 1, 2, strings.Repeat("\x00", 256))
	wantView(t, h, 0, 2, 32)
	wantView(t, h, 1, 3, 32)
}

// The same number is a handle of one tenant and of another, and of each what it has under it.
func TestHandlesOfDifferentTenants(t *testing.T) {
	h := open(t, 3, 2, 2)
	for tenant, data := range []string{"zero", "one", "two"} {
		wantReply(t, "P7", h, tenant, alloc(len(data)), done+two(0))
		fill(t, h, tenant, 0, data)
	}
	wantReply(t, "P12", h, 0, grant(0, 1), done+two(1))
	wantReply(t, "P12", h, 1, grant(0, 2), done+two(1))
	wantReply(t, "P12", h, 2, grant(0, 0), done+two(1))
	for tenant, data := range []string{"two", "zero", "one"} {
		wantBytes(t, "P12", h, tenant, 1, data)
	}
	wantReply(t, "P13", h, 0, revoke(0), done)
	wantReply(t, "P13", h, 1, info(1), errStale)
	wantBytes(t, "P13", h, 0, 1, "two")
	wantBytes(t, "P13", h, 2, 1, "one")
	wantReply(t, "P8", h, 1, free(0), done)
	wantReply(t, "P8", h, 2, info(1), errStale)
	wantBytes(t, "P8", h, 0, 1, "two")
}

// shared lays what comes from the object of tenant 0: to tenant 1 its handle 1 (from 0), and from that tenant 2's handle 0, of which
// a part is its handle 1, and from this tenant 0's handle 1; besides, tenant 1's handle 2 (from 0). Tenant 1 has an object of its own by its handle 0.
func shared(t *testing.T) *house.House {
	t.Helper()
	h := open(t, 3, 4, 4)
	wantReply(t, "P7", h, 0, alloc(16), done+two(0))
	wantReply(t, "P7", h, 1, alloc(8), done+two(0))
	fill(t, h, 0, 0, "0123456789abcdef")
	fill(t, h, 1, 0, "ABCDEFGH")
	wantReply(t, "P12", h, 0, grant(0, 1), done+two(1))
	wantReply(t, "P12", h, 1, grant(1, 2), done+two(0))
	wantReply(t, "P11", h, 2, derive(0, 4, 8, 6), done+two(1))
	wantReply(t, "P12", h, 2, grant(1, 0), done+two(1))
	wantReply(t, "P12", h, 0, grant(0, 1), done+two(2))
	return h
}

type held struct{ tenant, handle int }

var allShared = []held{{0, 0}, {0, 1}, {1, 0}, {1, 1}, {1, 2}, {2, 0}, {2, 1}}

// wantShared: of all that shared lays, everything is there but what is gone; and the objects are as they were.
func wantShared(t *testing.T, promise string, h *house.House, gone ...held) {
	t.Helper()
	counts := [3]int{}
	for _, x := range allShared {
		reply := done + two(16) + allRights
		if x == (held{1, 0}) {
			reply = done + two(8) + allRights
		}
		if x.handle == 1 && x.tenant != 1 {
			reply = done + two(8) + "\x06"
		}
		counts[x.tenant]++
		for _, y := range gone {
			if x == y {
				reply = errStale
				counts[x.tenant]--
			}
		}
		wantReply(t, promise, h, x.tenant, info(x.handle), reply)
	}
	wantView(t, h, 0, counts[0], 2)
	wantView(t, h, 1, counts[1], 1)
	wantView(t, h, 2, counts[2], 0)
	wantBytes(t, promise, h, 0, 0, "0123456789abcdef")
	wantBytes(t, promise, h, 1, 0, "ABCDEFGH")
}

// P13: all below, with whichever tenant it lies; nothing above and nothing beside; and whoever it came to may do it.
func TestRevokeAndDropOfWhatIsShared(t *testing.T) {
	of := func(x ...held) []held { return x }
	below := [][]held{
		of(held{0, 1}, held{1, 1}, held{1, 2}, held{2, 0}, held{2, 1}),
		nil,
		nil,
		of(held{0, 1}, held{2, 0}, held{2, 1}),
		nil,
		of(held{0, 1}, held{2, 1}),
		of(held{0, 1}),
	}
	for i, x := range allShared {
		h := shared(t)
		wantShared(t, "P12", h)
		for range 2 {
			wantReply(t, "P13", h, x.tenant, revoke(x.handle), done)
			wantShared(t, "P13", h, below[i]...)
		}
		h = shared(t)
		if i == 0 || i == 2 {
			wantReply(t, "P13", h, x.tenant, drop(x.handle), errRoot)
			wantShared(t, "P13", h)
			continue
		}
		wantReply(t, "P13", h, x.tenant, drop(x.handle), done)
		wantShared(t, "P13", h, append(below[i], x)...)
		wantReply(t, "P13", h, x.tenant, drop(x.handle), errStale)
	}
}

// P8: who got something by Grant does not free it; with the object all of it goes, whoever holds it.
func TestFreeOfWhatIsShared(t *testing.T) {
	for i, x := range allShared {
		if i == 0 || i == 2 {
			continue
		}
		h := shared(t)
		wantReply(t, "P8", h, x.tenant, free(x.handle), errRoot)
		wantShared(t, "P8", h)
	}
	h := shared(t)
	wantReply(t, "P8", h, 0, free(0), done)
	wantView(t, h, 0, 0, 0)
	wantView(t, h, 1, 1, 1)
	wantView(t, h, 2, 0, 0)
	for i, x := range allShared {
		if i != 2 {
			wantReply(t, "P8", h, x.tenant, info(x.handle), errStale)
			wantReply(t, "P8", h, x.tenant, read(x.handle, 0, 1), errStale)
			wantReply(t, "P8", h, x.tenant, grant(x.handle, 2), errStale)
		}
	}
	wantBytes(t, "P8", h, 1, 0, "ABCDEFGH")
	// The slots are used again: nothing of the old handles is in what they hold then.
	wantReply(t, "P7", h, 0, alloc(32), done+two(16))
	wantBytes(t, "P7", h, 0, 16, strings.Repeat("\x00", 32))
	wantReply(t, "P12", h, 0, grant(16, 1), done+two(16+1))
	wantReply(t, "P8", h, 1, info(1), errStale)
	wantReply(t, "P8", h, 1, info(2), errStale)
	wantReply(t, "P14", h, 1, info(16+1), done+two(32)+allRights)
}

// P10: who writes by what was granted, writes the same bytes that all others hold, and no others.
func TestWriteByWhatIsShared(t *testing.T) {
	h := shared(t)
	wantReply(t, "P10", h, 2, write(1, 2, "xy"), done)
	wantReply(t, "P9", h, 2, read(1, 2, 2), errRights)
	wantBytes(t, "P10", h, 0, 0, "012345xy89abcdef")
	wantBytes(t, "P10", h, 1, 1, "012345xy89abcdef")
	wantBytes(t, "P10", h, 1, 2, "012345xy89abcdef")
	wantReply(t, "P10", h, 0, write(1, 7, "z"), done)
	wantReply(t, "P10", h, 0, write(1, 7, "zz"), errRange)
	wantBytes(t, "P10", h, 2, 0, "012345xy89azcdef")
	wantBytes(t, "P10", h, 1, 0, "ABCDEFGH")
}

// P11: what is derived by what was granted, lies with the one that derived it, and comes from that.
func TestDeriveByWhatIsGranted(t *testing.T) {
	h := ofFour(t, 3, 5)
	wantReply(t, "P12", h, 0, grant(1, 1), done+two(0))
	wantReply(t, "P11", h, 1, derive(0, 1, 2, 4), done+two(1))
	wantReply(t, "P11", h, 1, derive(0, 1, 3, 1), done+two(2))
	wantView(t, h, 0, 2, 3)
	wantView(t, h, 1, 3, 0)
	wantReply(t, "P14", h, 1, info(1), done+two(2)+"\x04")
	wantReply(t, "P9", h, 1, read(1, 0, 1), errRights)
	wantReply(t, "P9", h, 1, read(2, 0, 3), done+"678")
	wantReply(t, "P12", h, 1, grant(2, 2), errRights)
	wantReply(t, "P12", h, 1, grant(1, 2), done+two(0))
	wantReply(t, "P14", h, 2, info(0), done+two(2)+"\x04")
	wantReply(t, "P11", h, 1, derive(0, 0, 0, 0), done+two(3))
	wantReply(t, "P11", h, 1, derive(0, 0, 0, 0), errFull)
	wantReply(t, "P13", h, 1, revoke(0), done)
	wantView(t, h, 1, 1, 0)
	wantView(t, h, 2, 0, 0)
	wantReply(t, "P13", h, 0, revoke(1), done)
	wantView(t, h, 1, 0, 0)
	wantView(t, h, 0, 2, 3)
}

// P12: who grants to itself has one handle more of the same, that comes from the first.
func TestGrantToItself(t *testing.T) {
	h := ofFour(t, 1, 7)
	wantReply(t, "P12", h, 0, grant(1, 0), done+two(2))
	wantReply(t, "P12", h, 0, grant(2, 0), done+two(3))
	wantReply(t, "P14", h, 0, info(3), done+two(4)+allRights)
	wantReply(t, "P10", h, 0, write(3, 0, "wxyz"), done)
	wantBytes(t, "P10", h, 0, 0, "01234wxyz9abcdefghij")
	wantReply(t, "P8", h, 0, free(2), errRoot)
	wantReply(t, "P13", h, 0, revoke(3), done)
	wantView(t, h, 0, 4, 3)
	wantReply(t, "P13", h, 0, drop(2), done)
	wantReply(t, "P13", h, 0, info(3), errStale)
	wantView(t, h, 0, 2, 3)
	wantReply(t, "P12", h, 0, grant(0, 0), done+two(16+2))
	wantReply(t, "P13", h, 0, drop(16+2), done)
	wantReply(t, "P14", h, 0, info(0), done+two(20)+allRights)
}

// P13: to and fro between two tenants, as often as their slots allow; from any of them on all that follow are taken back.
func TestGrantToAndFro(t *testing.T) {
	for cut := range 8 {
		h := open(t, 2, 4, 4)
		wantReply(t, "P7", h, 0, alloc(8), done+two(0))
		for i := 1; i < 8; i++ {
			wantReply(t, "P12", h, (i-1)%2, grant((i-1)/2, i%2), done+two(i/2))
		}
		wantReply(t, "P12", h, 1, grant(3, 0), errFull)
		wantReply(t, "P13", h, cut%2, revoke(cut/2), done)
		for i := range 8 {
			reply := done + two(8) + allRights
			if i > cut {
				reply = errStale
			}
			wantReply(t, "P13", h, i%2, info(i/2), reply)
		}
	}
}

// P15: a tenant's objects take its own chunks, whoever holds them, and those of nobody else.
func TestChunksOfWhatIsGranted(t *testing.T) {
	h := open(t, 4, 16, 32)
	for tenant := range 4 {
		wantReply(t, "P7", h, tenant, alloc(60*(tenant+1)), done+two(0))
	}
	for tenant := range 4 {
		for to := range 4 {
			wantReply(t, "P12", h, tenant, grant(0, to), done+two(1+tenant))
		}
	}
	for tenant := range 4 {
		wantView(t, h, tenant, 5, (60*(tenant+1)+7)/8)
	}
	wantReply(t, "P7", h, 0, alloc(8*24), done+two(5))
	wantReply(t, "P7", h, 0, alloc(1), errRoom)
	wantReply(t, "P8", h, 3, free(0), done)
	wantView(t, h, 0, 5, 32)
	wantView(t, h, 1, 4, 15)
	wantView(t, h, 2, 4, 23)
	wantView(t, h, 3, 3, 0)
	wantReply(t, "P7", h, 3, alloc(256), done+two(16))
}

// P1, P12: all handles and all tenants, in a house where something is held under a few.
func TestGrantOfEveryHandle(t *testing.T) {
	h := ofFour(t, 2, 3)
	for handle := range 65536 {
		for _, to := range []int{0, 1, 2, 255} {
			reply := errStale
			switch {
			case handle == 0 && to < 2:
				continue
			case handle == 0:
				reply = errTenant
			case handle == 1:
				reply = errRights
			}
			wantReply(t, "P6, P12", h, 0, grant(handle, to), reply)
		}
		wantReply(t, "P6", h, 1, grant(handle, 0), errStale)
	}
	wantView(t, h, 0, 2, 3)
	wantView(t, h, 1, 0, 0)
}
