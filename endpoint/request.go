package endpoint

import (
	"strconv"
	"strings"

	"latchkey/api"
	"latchkey/client"
	"latchkey/codec"
	"latchkey/query"
	"latchkey/wire"
)

const (
	formType = "application/x-www-form-urlencoded"
	basic    = "Basic "
)

// A request that an endpoint answers, and what is known of it so far.
type request struct {
	*Endpoint
	message api.Message
	now     int // the reading
	time    int
	secret  string // for what is minted
	form    []api.Field
	name    string // who asks
}

// A place is a path, and what serves it.
type place struct {
	path  string
	serve func() api.Answer
}

// answer is what the first one says that has something to say.
func (r *request) answer() api.Answer {
	r.time = r.table.See(r.now)
	serve := r.server()
	if serve == nil {
		return answered(404, "")
	}
	for _, refuse := range []func() (api.Answer, bool){r.methodless, r.typeless, r.formless, r.doubled, r.nobody, r.hasty} {
		if a, refused := refuse(); refused {
			return a
		}
	}
	return serve()
}

// server is what serves the request's path, if something does.
func (r *request) server() func() api.Answer {
	for _, p := range []place{{"/token", r.token}, {"/revoke", r.revoke}, {"/introspect", r.introspect}} {
		if p.path == r.message.Path {
			return p.serve
		}
	}
	return nil
}

func (r *request) methodless() (api.Answer, bool) {
	return answered(405, "", api.Field{Name: "Allow", Value: "POST"}), r.message.Method != "POST"
}

func (r *request) typeless() (api.Answer, bool) {
	l := wire.All(r.message.Headers, "Content-Type")
	return answered(415, ""), len(l) != 1 || l[0] != formType
}

// formless reads the form: is there none in which each name stands once?
func (r *request) formless() (api.Answer, bool) {
	form, errno, _ := query.Parse(r.message.Body)
	r.form = form
	return badRequest(), errno != api.OK || !allOnce(form)
}

// allOnce: is each field the only one of its name?
func allOnce(form []api.Field) bool {
	for _, f := range form {
		if _, errno := query.One(form, f.Name); errno != api.OK {
			return false
		}
	}
	return true
}

// doubled: is told more than once who asks?
func (r *request) doubled() (api.Answer, bool) {
	_, named := r.field("client_id")
	_, secret := r.field("client_secret")
	headers := len(r.credentials())
	return badRequest(), headers > 1 || headers == 1 && (named || secret)
}

// credentials are what the headers say of who asks.
func (r *request) credentials() []string { return wire.All(r.message.Headers, "Authorization") }

// field is a field of the form, and whether it is there.
func (r *request) field(name string) (string, bool) {
	value, errno := query.One(r.form, name)
	return value, errno == api.OK
}

// nobody finds out who asks: does no client that may?
func (r *request) nobody() (api.Answer, bool) {
	name, password, told := r.asker()
	if told {
		_, errno := client.Check(r.table, name, password, r.now)
		switch errno {
		case api.OK:
			r.name = name
			return api.Answer{}, false
		case api.ErrDead:
			return later(), true
		}
	}
	return refusal(401, "invalid_client", api.Field{Name: "WWW-Authenticate", Value: `Basic realm="` + r.issuer + `"`}), true
}

// asker is who says to ask, and by which secret.
func (r *request) asker() (name, password string, told bool) {
	if l := r.credentials(); len(l) > 0 {
		return readBasic(l[0])
	}
	name, told = r.field("client_id")
	password, _ = r.field("client_secret")
	return name, password, told
}

// readBasic reads a header's value.
func readBasic(value string) (name, password string, is bool) {
	letters, begun := strings.CutPrefix(value, basic)
	pair, errno := codec.FromStandard(letters)
	ahead, behind, parted := strings.Cut(pair, ":")
	name, wrongName := query.Unescape(ahead)
	password, wrongPassword := query.Unescape(behind)
	if !begun || errno != api.OK || !parted || wrongName != api.OK || wrongPassword != api.OK {
		return "", "", false
	}
	return name, password, true
}

// hasty: does a client ask too often?
func (r *request) hasty() (api.Answer, bool) {
	seconds, errno := r.limiter.Take(r.name, 1, r.time)
	return refusal(429, "slow_down", api.Field{Name: "Retry-After", Value: strconv.Itoa(seconds)}), errno != api.OK
}
