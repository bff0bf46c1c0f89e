package jot

import (
	"unicode/utf8"

	"latchkey/api"
)

// A value is one part as its kind has it. The parts within it are opened one by one, where they are needed: so a great value is gone through without a copy of it.
type value interface {
	mayBe() bool
}

type (
	null   struct{}
	flag   bool
	number int
	text   string
	list   []api.Jot
	object struct {
		names []string
		items []api.Jot
	}
)

func (null) mayBe() bool { return true }

func (flag) mayBe() bool { return true }

func (n number) mayBe() bool { return n >= -api.MaxNumber && n <= api.MaxNumber }

func (t text) mayBe() bool { return utf8.ValidString(string(t)) }

func (list) mayBe() bool { return true }

func (o object) mayBe() bool {
	for n, name := range o.names {
		if !utf8.ValidString(name) || n > 0 && name <= o.names[n-1] {
			return false
		}
	}
	return len(o.names) == len(o.items)
}

// open is the value that a part stands for; it gives up, if that part may not be.
func open(part api.Jot) value {
	var v value
	rest := part // what the kind has not
	switch part.Kind {
	case api.JotNull:
		v = null{}
	case api.JotFalse, api.JotTrue:
		v = flag(part.Kind == api.JotTrue)
	case api.JotNumber:
		v, rest.Number = number(part.Number), 0
	case api.JotText:
		v, rest.Text = text(part.Text), ""
	case api.JotList:
		v, rest.Items = list(part.Items), nil
	case api.JotObject:
		v, rest.Names, rest.Items = object{part.Names, part.Items}, nil, nil
	}
	if v == nil || !empty(rest) || !v.mayBe() {
		panic(fault{errno: api.ErrJotValue})
	}
	return v
}

// empty says whether all that a part has beside its kind is zero.
func empty(part api.Jot) bool {
	return part.Number == 0 && part.Text == "" && len(part.Names) == 0 && len(part.Items) == 0
}

// depth is how many lists and objects stand in one another; it gives up, if one of the parts may not be.
func depth(part api.Jot) int {
	var within []api.Jot
	switch v := open(part).(type) {
	case list:
		within = v
	case object:
		within = v.items
	default:
		return 0
	}
	deepest := 0
	for _, item := range within {
		deepest = max(deepest, depth(item))
	}
	return deepest + 1
}

// closed is the part that open makes a value of.
func closed(v value) api.Jot {
	switch v := v.(type) {
	case flag:
		if v {
			return api.Jot{Kind: api.JotTrue}
		}
		return api.Jot{Kind: api.JotFalse}
	case number:
		return api.Jot{Kind: api.JotNumber, Number: int(v)}
	case text:
		return api.Jot{Kind: api.JotText, Text: string(v)}
	case list:
		return api.Jot{Kind: api.JotList, Items: v}
	case object:
		return api.Jot{Kind: api.JotObject, Names: v.names, Items: v.items}
	}
	return api.Jot{Kind: api.JotNull}
}
