package endpoint

import (
	"latchkey/api"
	"latchkey/jot"
	"latchkey/scope"
)

// answered is an answer; the headers that only some have stand behind those that all have.
func answered(status int, body string, more ...api.Field) api.Answer {
	headers := []api.Field{{Name: "Cache-Control", Value: "no-store"}}
	if body != "" {
		headers = append(headers, api.Field{Name: "Content-Type", Value: "application/json"})
	}
	return api.Answer{Status: status, Headers: append(headers, more...), Body: body}
}

// refusal says by a word why not.
func refusal(status int, word string, more ...api.Field) api.Answer {
	return answered(status, object(member{"error", text(word)}), more...)
}

func badRequest() api.Answer { return refusal(400, "invalid_request") }

// later: whoever asks has done nothing wrong.
func later() api.Answer { return refusal(503, "temporarily_unavailable") }

// A member of an object.
type member struct {
	name string
	item api.Jot
}

func text(s string) api.Jot { return api.Jot{Kind: api.JotText, Text: s} }

func number(n int) api.Jot { return api.Jot{Kind: api.JotNumber, Number: n} }

func yes(is bool) api.Jot {
	if is {
		return api.Jot{Kind: api.JotTrue}
	}
	return api.Jot{Kind: api.JotFalse}
}

// object is the text of one, whose members are handed in by rising names.
func object(members ...member) string {
	v := api.Jot{Kind: api.JotObject}
	for _, m := range members {
		v.Names, v.Items = append(v.Names, m.name), append(v.Items, m.item)
	}
	s, errno := jot.Print(v)
	sure(errno)
	return s
}

// scopeText is a scope as text.
func scopeText(names []string) api.Jot {
	s, errno := scope.Print(names)
	sure(errno)
	return text(s)
}

// sure gives a request up, if what can't be refused was: Serve answers for it then.
func sure(errno api.Errno) {
	if errno != api.OK {
		panic(errno)
	}
}
