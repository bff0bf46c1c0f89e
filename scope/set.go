package scope

import (
	"slices"
	"strings"

	"latchkey/api"
)

// A set is a scope inside: its names, in no order.
type set map[string]struct{}

func setOf(names []string) set {
	s := set{}
	s.add(names...)
	return s
}

func (s set) add(names ...string) {
	for _, name := range names {
		s[name] = struct{}{}
	}
}

// keep takes away what the other one has not.
func (s set) keep(other set) {
	for name := range s {
		if _, has := other[name]; !has {
			delete(s, name)
		}
	}
}

// drop takes away what the other one has.
func (s set) drop(other set) {
	for name := range other {
		delete(s, name)
	}
}

// rising is the names in their order, which hides the map's own, and in memory of their own.
func (s set) rising() []string {
	var names []string
	for name := range s {
		names = append(names, strings.Clone(name))
	}
	slices.Sort(names)
	return names
}

// scope is the names as a scope, if there are not too many.
func (s set) scope() ([]string, api.Errno) {
	names := s.rising()
	if errno := tooMany(names); errno != api.OK {
		return nil, errno
	}
	return names, api.OK
}
