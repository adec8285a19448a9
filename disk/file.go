package disk

import "massif/api"

// file is what lies under a name. Its two rows share no room, so that what was synced stays while the bytes are written.
type file struct {
	now    []byte // the bytes as they are
	synced []byte // those that there were at the last Sync
	same   int    // so many first ones were neither written nor cut since: they need not be synced again, for a file that grows is synced often
}

// afterWrite is the file with data from off on.
func (f file) afterWrite(off int, data string) file {
	over := copy(f.now[off:], data)
	f.now = append(f.now, data[over:]...)
	f.same = min(f.same, off)
	return f
}

// afterCut is the file with its first size bytes.
func (f file) afterCut(size int) file {
	f.now = f.now[:size]
	f.same = min(f.same, size)
	return f
}

// afterSync is the file with all its bytes synced.
func (f file) afterSync() file {
	f.synced = append(f.synced[:f.same], f.now[f.same:]...)
	f.same = len(f.now)
	return f
}

// stays is what stays of a file when the power goes: a choice for its length, if there are two, then one for each sector of which there are two.
func (f file) stays(c *choices) []byte {
	size := len(f.synced)
	if len(f.now) != size && c.next() {
		size = len(f.now)
	}
	row := make([]byte, size)
	for from := 0; from < max(len(f.now), len(f.synced)); from += api.Sector {
		is, stay := sectorAt(f.now, from), sectorAt(f.synced, from)
		if is != stay && c.next() {
			stay = is
		}
		copy(row[min(from, size):], stay[:]) // a sector behind the end is chosen too, and does not stay
	}
	return row
}

// sector is a sector's bytes; zeros, where there are none.
type sector [api.Sector]byte

// sectorAt is the sector of a row from a place on.
func sectorAt(row []byte, from int) sector {
	s := sector{}
	copy(s[:], row[min(from, len(row)):])
	return s
}

// choices are taken one by one, from the first on again where they end.
type choices struct {
	keep []bool
	at   int // of the next one
}

// next is the next choice: false, if there are none.
func (c *choices) next() bool {
	if len(c.keep) == 0 {
		return false
	}
	stays := c.keep[c.at]
	c.at = (c.at + 1) % len(c.keep)
	return stays
}
