package house

import "tenure/api"

const allRights = api.MayRead + api.MayWrite + api.MayShare

// chunksFor answers how many chunks so many bytes need.
func chunksFor(size int) int {
	return (size + api.Chunk - 1) / api.Chunk
}

// chunksTaken answers how many chunks a tenant's objects take: they are those whose roots it holds.
func (h *House) chunksTaken(tenant int) int {
	n := 0
	for number := 0; number < h.config.Slots; number++ {
		place := placeOf(tenant, number)
		n += chunksFor(len(h.slots[place].bytes))
	}
	return n
}

// alloc makes an object (P7).
func (h *House) alloc(tenant, size int) (string, api.Errno) {
	if size < 1 || size > api.MaxSize {
		return "", api.ErrRange
	}
	left := h.config.Chunks - h.chunksTaken(tenant)
	if chunksFor(size) > left {
		return "", api.ErrRoom
	}
	place, found := h.next(tenant)
	if !found {
		return "", api.ErrFull
	}
	h.lay(place, holding{from: none, root: place, length: size, rights: allRights})
	h.slots[place].bytes = make([]byte, size)
	return twoBytes(h.handleAt(place)), api.OK
}

// free ends the object whose root lies at a place (P8): its bytes go with the slot.
func (h *House) free(place int) api.Errno {
	if h.slots[place].holding.from != none {
		return api.ErrRoot
	}
	h.empty(place)
	return api.OK
}

// read answers bytes of a stretch (P9).
func (h *House) read(place, off, length int) (string, api.Errno) {
	x := h.slots[place].holding
	if x.rights&api.MayRead == 0 {
		return "", api.ErrRights
	}
	if length > api.MaxData || off+length > x.length {
		return "", api.ErrRange
	}
	start := x.first + off
	return string(h.slots[x.root].bytes[start : start+length]), api.OK
}

// write changes bytes of a stretch (P10).
func (h *House) write(place, off int, data string) api.Errno {
	x := h.slots[place].holding
	if x.rights&api.MayWrite == 0 {
		return api.ErrRights
	}
	if off+len(data) > x.length {
		return api.ErrRange
	}
	start := x.first + off
	for i := 0; i < len(data); i++ {
		h.slots[x.root].bytes[start+i] = data[i]
	}
	return api.OK
}

// info answers the length and the rights of what is held (P14).
func (h *House) info(place int) string {
	x := h.slots[place].holding
	return twoBytes(x.length) + oneByte(x.rights)
}
