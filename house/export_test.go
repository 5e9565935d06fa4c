package house

// Pass lets the tests lay a stretch of what a tenant holds by a handle into the next slot of a tenant, without any request.
// It answers the handle by which that one holds it, and false, if nothing was laid.
func (h *House) Pass(tenant, handle, to, off, length, rights int) (int, bool) {
	from, holds := h.find(tenant, handle)
	place, found := h.next(to)
	if !holds || !found {
		return 0, false
	}
	x := h.slots[from].holding
	h.lay(place, holding{from: from, root: x.root, first: x.first + off, length: length, rights: rights})
	return h.handleAt(place), true
}
