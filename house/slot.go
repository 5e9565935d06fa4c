package house

import "tenure/api"

// slot is a tenant's place for a handle.
type slot struct {
	uses    int // how often something was laid into it: its generation is one less
	full    bool
	holding holding
	bytes   []byte // of the object, if it holds a root
}

// holding is what a slot holds: a stretch of an object, with rights.
// A slot is never emptied without all below it: so the root is there as long as this is, and has all bytes of the stretch.
type holding struct {
	from   int // the place of the slot that it comes from; none, if it is a root
	root   int // the place of the object's root, where its bytes lie
	first  int // the stretch's first byte, counted from the object's
	length int
	rights int
}

// none is no place.
const none = -1

// placeOf answers where a tenant's slot lies in the row of all slots. Each tenant has as many places there as a
// handle can tell apart, however few its slots are: so a place alone tells the slot's number.
func placeOf(tenant, number int) int {
	return api.MaxSlots*tenant + number
}

// handleAt answers the handle by which what lies at a place is held.
func (h *House) handleAt(place int) int {
	generation := h.slots[place].uses - 1
	return api.MaxSlots*generation + place%api.MaxSlots
}

// find answers the place of what a tenant holds by a handle, and false, if it holds nothing by it.
func (h *House) find(tenant, handle int) (int, bool) {
	for number := 0; number < h.config.Slots; number++ {
		place := placeOf(tenant, number)
		if h.slots[place].full && h.handleAt(place) == handle {
			return place, true
		}
	}
	return 0, false
}

// next answers the place of a tenant's next slot, and false, if it has none.
func (h *House) next(tenant int) (int, bool) {
	for number := 0; number < h.config.Slots; number++ {
		place := placeOf(tenant, number)
		if !h.slots[place].full && h.slots[place].uses <= api.MaxUse {
			return place, true
		}
	}
	return 0, false
}

// lay lays something into the empty slot at a place.
func (h *House) lay(place int, x holding) {
	h.slots[place].uses++
	h.slots[place].full = true
	h.slots[place].holding = x
}

// empty empties the slot at a place and all slots below it. It begins with the slot itself: so each time
// fewer slots are full than before, and it ends.
func (h *House) empty(place int) {
	h.slots[place].full = false
	h.slots[place].holding = holding{}
	h.slots[place].bytes = nil
	h.emptyBelow(place)
}

// emptyBelow empties all slots below the one at a place.
func (h *House) emptyBelow(place int) {
	for i := range h.slots {
		if h.slots[i].full && h.slots[i].holding.from == place {
			h.empty(i)
		}
	}
}
