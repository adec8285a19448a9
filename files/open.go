package files

import (
	"strings"

	"massif/api"
	"massif/record"
)

// takeAll takes each item that has a marker, from the first on: ErrBroken, if a marker or what it speaks of is not right.
func (s *Store) takeAll() api.Errno {
	count := s.d.Size(Marks) / api.MarkLen
	for i := range count {
		row, e := s.d.Read(Marks, i*api.MarkLen, api.MarkLen)
		if e != api.OK {
			return e
		}
		if i == count-1 && isNone(row) {
			break
		}
		if e := s.takeNext(row); e != api.OK {
			return e
		}
	}
	return api.OK
}

// isNone tells whether a marker's sector is what a crash leaves, if the file's new length stays without it.
func isNone(row string) bool {
	return row == strings.Repeat("\x00", api.MarkLen)
}

// takeNext takes the next item by its marker's record: ErrBroken, if that is not just the marker which the item's own records ask for.
func (s *Store) takeNext(row string) api.Errno {
	m, e := record.ReadMark(row)
	if e != api.OK || len(s.ends) >= api.MaxItems {
		return api.ErrBroken
	}
	from := s.length(Items)
	if m.Items <= uint64(from) || m.Items > uint64(s.d.Size(Items)) {
		return api.ErrBroken
	}
	payload, e := s.read(Items, from, int(m.Items)-from)
	if e != api.OK {
		return e
	}
	if _, ok := wholeItem(payload); !ok {
		return api.ErrBroken
	}
	nodes, e := s.readNewNodes()
	if e != api.OK {
		return e
	}
	if m != s.next(payload, nodes) {
		return api.ErrBroken
	}
	s.take(m)
	return api.OK
}

// readNewNodes are the records of the next item's new nodes: ErrBroken, if one is not there or not right.
func (s *Store) readNewNodes() ([]string, api.Errno) {
	size := len(s.ends)
	var list []string
	for p := nodesOf(size); p < nodesOf(size+1); p++ {
		row, e := s.read(Nodes, int(p)*api.NodeLen, api.NodeLen)
		if e != api.OK {
			return nil, e
		}
		if _, e := record.ReadNode(s.k, p, row); e != api.OK {
			return nil, api.ErrBroken
		}
		list = append(list, row)
	}
	return list, api.OK
}

// settle cuts what stands behind the markers' ends, and makes all that they speak of last.
func (s *Store) settle() api.Errno {
	names := []string{Items, Nodes, Marks}
	for _, name := range names {
		if s.d.Size(name) <= s.length(name) {
			continue
		}
		if e := s.d.Cut(name, s.length(name)); e != api.OK {
			return e
		}
	}
	for _, name := range names {
		if e := s.d.Sync(name); e != api.OK {
			return e
		}
	}
	return api.OK
}
