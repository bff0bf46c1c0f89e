package endpoint

import (
	"latchkey/access"
	"latchkey/api"
	"latchkey/grant"
)

// revoke ends the family of a token.
func (r *request) revoke() api.Answer {
	shown, there := r.field("token")
	if !there {
		return badRequest()
	}
	if errno := grant.Revoke(r.table, r.name, shown, r.now); errno != api.OK {
		return failed(errno)
	}
	return answered(200, "")
}

// introspect tells what a token of either kind is worth.
func (r *request) introspect() api.Answer {
	shown, there := r.field("token")
	if !there {
		return badRequest()
	}
	i, errno := r.worth(shown)
	switch {
	case errno != api.OK || i.Family > api.MaxNumber:
		return later()
	case !i.Active:
		return answered(200, object(member{"active", yes(false)}))
	}
	return answered(200, object(
		member{"active", yes(true)},
		member{"client_id", text(i.Client)},
		member{"exp", number(i.End)},
		member{"fam", number(i.Family)},
		member{"iat", number(i.Issued)},
		member{"scope", scopeText(i.Scope)},
		member{"sub", text(i.Subject)},
	))
}

// worth is what a refresh token is worth, or else an access token.
func (r *request) worth(shown string) (api.Info, api.Errno) {
	i, errno := grant.Introspect(r.table, shown, r.now)
	if errno != api.OK || i.Active {
		return i, errno
	}
	return access.Worth(r.table, r.issuer, shown, r.now)
}
