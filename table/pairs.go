package table

import (
	"cmp"
	"math"
	"slices"
	"strings"

	"latchkey/api"
	"latchkey/tree"
)

const mostScanned = 4096 // pairs that a tree gives at once

// change is what becomes of a key: it has a value, or it is gone.
type change struct {
	value string
	gone  bool
}

// pairs are those that stand in a tree, and what was begun over them. The tree itself has no changes but while they are committed.
type pairs struct {
	tree  *tree.Tree
	begun map[string]change // by keys
}

// get is the value of a key. The tree is asked whatever was begun, for it tells of a dead disk.
func (s *pairs) get(key string) (string, bool, api.Errno) {
	value, there, errno := s.tree.Get(key)
	if c, changed := s.begun[key]; changed && errno == api.OK {
		return c.value, !c.gone, api.OK
	}
	return value, there, errno
}

func (s *pairs) put(p api.Pair) { s.begun[p.Key] = change{value: p.Value} }

func (s *pairs) drop(key string) { s.begun[key] = change{gone: true} }

// under are all pairs whose keys begin so, rising.
func (s *pairs) under(prefix string) ([]api.Pair, api.Errno) {
	return s.within(prefix, prefix+strings.Repeat("\xff", api.MaxKey), math.MaxInt) // no key goes on for longer
}

// within are the first pairs from a key on, up to another one, rising. Each change takes one away of those that stand, at the most: so many more are read.
func (s *pairs) within(from, to string, most int) ([]api.Pair, api.Errno) {
	most = min(max(most, 0), math.MaxInt-len(s.begun))
	l, errno := s.stood(from, to, most+len(s.begun))
	if errno != api.OK {
		return nil, errno
	}
	l = slices.DeleteFunc(l, s.isChanged)
	for key, c := range s.begun {
		if !c.gone && from <= key && key < to {
			l = append(l, api.Pair{Key: key, Value: c.value})
		}
	}
	slices.SortFunc(l, byKey)
	return l[:min(most, len(l))], api.OK
}

func (s *pairs) isChanged(p api.Pair) bool {
	_, changed := s.begun[p.Key]
	return changed
}

func byKey(a, b api.Pair) int { return cmp.Compare(a.Key, b.Key) }

// stood are the first pairs that stand from a key on, up to another one (the empty one is no end), however many a tree gives at once.
func (s *pairs) stood(from, to string, most int) ([]api.Pair, api.Errno) {
	var l []api.Pair
	for {
		part, errno := s.tree.Scan(from, to, min(most-len(l), mostScanned))
		if errno != api.OK {
			return nil, errno
		}
		l = append(l, part...)
		if len(part) < mostScanned {
			return l, api.OK
		}
		from = l[len(l)-1].Key + "\x00" // nothing stands between
	}
}

// commit lets stand what was begun. A tree that was refused it has its changes no more, for what was begun is kept here alone.
func (s *pairs) commit(note string) api.Errno {
	defer s.tree.Abort()
	for key, c := range s.begun {
		if errno := s.lay(key, c); errno != api.OK {
			return errno
		}
	}
	errno := s.tree.Commit(note)
	if errno == api.OK {
		s.forget()
	}
	return errno
}

func (s *pairs) lay(key string, c change) api.Errno {
	if c.gone {
		_, errno := s.tree.Delete(key)
		return errno
	}
	return s.tree.Put(key, c.value)
}

func (s *pairs) forget() { clear(s.begun) }
