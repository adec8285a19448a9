package files

import (
	"strings"

	"massif/api"
	"massif/record"
)

// Add lays an item with its new nodes, by their places, behind all; the payload and the nodes last ahead of the marker's being there. Behind an error of the disk the store is lame.
func (s *Store) Add(item string, nodes []string) api.Errno {
	if e := s.refuses(item, nodes); e != api.OK {
		return e
	}
	payload, records := record.Payload(item), s.nodeRecords(nodes)
	if len(payload) > api.MaxFile-s.length(Items) {
		return api.ErrRoom
	}
	marker := s.next(payload, records)
	acts := []func() api.Errno{
		func() api.Errno { return s.writeBehind(Items, payload) },
		func() api.Errno { return s.writeBehind(Nodes, strings.Join(records, "")) },
		func() api.Errno { return s.d.Sync(Items) },
		func() api.Errno { return s.d.Sync(Nodes) },
		func() api.Errno { return s.writeBehind(Marks, record.Mark(marker)) },
		func() api.Errno { return s.d.Sync(Marks) },
	}
	for _, act := range acts {
		if e := act(); e != api.OK {
			s.lame = true
			return e
		}
	}
	s.take(marker)
	return api.OK
}

// refuses is the error for which an item is not taken, whatever the disk has room for.
func (s *Store) refuses(item string, nodes []string) api.Errno {
	switch {
	case s.lame:
		return api.ErrLame
	case len(item) > api.MaxItem:
		return api.ErrItem
	case len(s.ends) >= api.MaxItems:
		return api.ErrMany
	case !s.areNext(nodes):
		return api.ErrNodes
	}
	return api.OK
}

// areNext tells whether nodes are as many as the next item has new ones, each a digest of the store's strength.
func (s *Store) areNext(nodes []string) bool {
	size := len(s.ends)
	if uint64(len(nodes)) != nodesOf(size+1)-nodesOf(size) {
		return false
	}
	for _, digest := range nodes {
		if len(digest) != s.k {
			return false
		}
	}
	return true
}

// nodeRecords are those of the next item's new nodes.
func (s *Store) nodeRecords(nodes []string) []string {
	first := nodesOf(len(s.ends))
	list := make([]string, len(nodes))
	for i, digest := range nodes {
		list[i] = record.Node(first+uint64(i), digest)
	}
	return list
}

// writeBehind writes where the markers say that a file ends, whatever the disk says.
func (s *Store) writeBehind(name, data string) api.Errno {
	return s.d.Write(name, s.length(name), data)
}
