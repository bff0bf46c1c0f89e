package tree

import (
	"maps"
	"slices"
	"strings"

	"latchkey/api"
)

// change is what a key shall have: a value, or it shall be gone.
type change struct {
	value string
	gone  bool
}

// changes are by keys, each of which stands otherwise.
type changes map[string]change

// note keeps a change, unless that is what stands.
func (l changes) note(key string, c change, stands bool) {
	if stands {
		delete(l, key)
		return
	}
	l[strings.Clone(key)] = c
}

// keys are all keys, rising.
func (l changes) keys() []string {
	return slices.Sorted(maps.Keys(l))
}

// within are the keys from one on, up to an end, rising.
func (l changes) within(from, to string) []string {
	return slices.DeleteFunc(l.keys(), func(key string) bool { return key < from || isAbove(key, to) })
}

// over are the first pairs, so many at the most, that come of pairs that stand and the changes of these keys.
func (l changes) over(stood []api.Pair, keys []string, most int) []api.Pair {
	var pairs []api.Pair
	for len(pairs) < most && len(stood)+len(keys) > 0 {
		if len(keys) == 0 || len(stood) > 0 && stood[0].Key < keys[0] {
			pairs, stood = append(pairs, stood[0]), stood[1:]
			continue
		}
		if len(stood) > 0 && stood[0].Key == keys[0] {
			stood = stood[1:]
		}
		if c := l[keys[0]]; !c.gone {
			pairs = append(pairs, api.Pair{Key: strings.Clone(keys[0]), Value: strings.Clone(c.value)})
		}
		keys = keys[1:]
	}
	return pairs
}
