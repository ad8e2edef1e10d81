package diary

import (
	"slices"

	"paybook/api"
	"paybook/plate"
	"paybook/seal"
)

// half is so many sectors of a plate, from one on.
type half struct {
	plate *plate.Plate
	from  int
	size  int
}

// room: how many bytes it has.
func (h half) room() int {
	return h.size * plate.Sector
}

// age is that of its first seal. False: that isn't right.
func (h half) age() (age uint32, right bool) {
	r := reader{half: h}
	e := r.ask(func(row []byte) (e api.Errno) {
		age, e = seal.Age(0, row)
		return e
	})
	return age, e == api.OK
}

// begin makes noughts of all in it, then has a seal ahead, whose first sector comes once the others are safe.
func (h half) begin(s []byte) api.Errno {
	if e := h.wipe(0); e != api.OK {
		return e
	}
	first := min(len(s), plate.Sector)
	if first < len(s) {
		if e := h.lay(1, s[first:]); e != api.OK {
			return e
		}
	}
	return h.lay(0, s[:first])
}

// add has one more seal, behind so many bytes.
func (h half) add(end int, s []byte) api.Errno {
	at := end / plate.Sector
	ahead, e := h.plate.Read(h.from + at)
	if e != api.OK {
		return e
	}
	return h.lay(at, append(ahead[:end%plate.Sector], s...))
}

// lay writes some bytes (at least one) from a sector on, and Flushes. The first sector comes last: its seal is to tell of nothing that isn't there.
func (h half) lay(at int, row []byte) api.Errno {
	parts := slices.Collect(slices.Chunk(row, plate.Sector))
	for i, part := range slices.Backward(parts) {
		if e := h.plate.Write(h.from+at+i, part); e != api.OK {
			return e
		}
	}
	return h.plate.Flush()
}

// wipe makes noughts of all behind so many bytes that isn't so, and Flushes.
func (h half) wipe(end int) api.Errno {
	for at := end / plate.Sector; at < h.size; at++ {
		b, e := h.plate.Read(h.from + at)
		if e != api.OK {
			return e
		}
		ahead := max(end-at*plate.Sector, 0)
		if !slices.ContainsFunc(b[ahead:], func(c byte) bool { return c != 0 }) {
			continue
		}
		if e := h.plate.Write(h.from+at, b[:ahead]); e != api.OK {
			return e
		}
	}
	return h.plate.Flush()
}

// reader takes a half's seals one behind the other, and reads no more sectors than they take.
type reader struct {
	half
	read int    // how many sectors
	row  []byte // what was read of them, and isn't taken
	end  int    // how many bytes are taken
}

// next is what is under the next seal, that is taken. False: it isn't right.
func (r *reader) next(age, place uint32) (p []byte, right bool) {
	size := 0
	e := r.ask(func(row []byte) (e api.Errno) {
		p, size, e = seal.Open(age, place, row)
		return e
	})
	r.row = r.row[size:]
	r.end += size
	return p, e == api.OK
}

// ask hands what isn't taken to a question, again and again, with one more sector as long as it is too short.
func (r *reader) ask(question func(row []byte) api.Errno) api.Errno {
	for {
		e := question(r.row)
		if e != api.ErrShort || r.read == r.size {
			return e
		}
		b, e := r.plate.Read(r.from + r.read)
		if e != api.OK {
			return e
		}
		r.row = append(r.row, b...)
		r.read++
	}
}
