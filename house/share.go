package house

import "tenure/api"

// derive lays a part of what lies at a place, with no right that it has not, into the tenant's next slot (P11).
func (h *House) derive(tenant, place, off, length, rights int) (string, api.Errno) {
	x := h.slots[place].holding
	if x.rights&api.MayShare == 0 || rights&x.rights != rights {
		return "", api.ErrRights
	}
	if off+length > x.length {
		return "", api.ErrRange
	}
	return h.give(tenant, holding{from: place, root: x.root, first: x.first + off, length: length, rights: rights})
}

// grant lays the same as lies at a place into the next slot of a tenant, who may be the one that asks (P12).
func (h *House) grant(tenant, place int) (string, api.Errno) {
	x := h.slots[place].holding
	if x.rights&api.MayShare == 0 {
		return "", api.ErrRights
	}
	if !h.has(tenant) {
		return "", api.ErrTenant
	}
	x.from = place
	return h.give(tenant, x)
}

// give lays something into a tenant's next slot, and answers the handle by which this tenant holds it.
func (h *House) give(tenant int, x holding) (string, api.Errno) {
	place, found := h.next(tenant)
	if !found {
		return "", api.ErrFull
	}
	h.lay(place, x)
	return twoBytes(h.handleAt(place)), api.OK
}

// drop gives up what lies at a place, and all below it (P13). A root is not given up: nobody could free the object then.
func (h *House) drop(place int) api.Errno {
	if h.slots[place].holding.from == none {
		return api.ErrRoot
	}
	h.empty(place)
	return api.OK
}
