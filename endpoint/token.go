package endpoint

import (
	"latchkey/access"
	"latchkey/api"
	"latchkey/clock"
	"latchkey/code"
	"latchkey/grant"
	"latchkey/scope"
	"latchkey/token"
)

// token gives the next tokens for what is shown.
func (r *request) token() api.Answer {
	kind, there := r.field("grant_type")
	switch {
	case !there:
		return badRequest()
	case kind == "refresh_token":
		return r.rotate()
	case kind == "authorization_code":
		return r.redeem()
	}
	return refusal(400, "unsupported_grant_type")
}

// rotate takes a refresh token.
func (r *request) rotate() api.Answer {
	shown, there := r.field("refresh_token")
	if !there {
		return badRequest()
	}
	// Without the field the text is empty, and says no names.
	wanted, _ := r.field("scope")
	names, errno := scope.Parse(wanted)
	if errno != api.OK {
		return refusal(400, "invalid_scope")
	}
	return r.give(func() (api.Issued, api.Errno) {
		return grant.Rotate(r.table, r.name, shown, names, r.now, r.secret)
	})
}

// redeem takes a code.
func (r *request) redeem() api.Answer {
	shown, there := r.field("code")
	verifier, verified := r.field("code_verifier")
	if !there || !verified {
		return badRequest()
	}
	return r.give(func() (api.Issued, api.Errno) {
		return code.Redeem(r.table, r.name, shown, verifier, r.now, r.secret)
	})
}

// give answers what is issued, with an access token. Who could not get that one must not spend what is shown: so the key comes first.
func (r *request) give(issue func() (api.Issued, api.Errno)) api.Answer {
	keys, errno := r.table.Keys()
	key, signs := access.Current(keys, r.time)
	if errno != api.OK || !signs {
		return later()
	}
	i, errno := issue()
	if errno != api.OK {
		return ungiven(errno)
	}
	c := r.claims(i)
	signed, errno := access.Sign(key, r.issuer, c)
	if errno != api.OK {
		return later()
	}
	return answered(200, object(
		member{"access_token", text(signed)},
		member{"expires_in", number(c.End - r.time)},
		member{"refresh_token", text(i.Token)},
		member{"scope", scopeText(i.Scope)},
		member{"token_type", text("Bearer")},
	))
}

// claims are what an access token says of what was issued.
func (r *request) claims(i api.Issued) api.Claims {
	id, _, errno := token.Parse(api.Refresh, i.Token)
	sure(errno)
	return api.Claims{
		Client: r.name, Subject: i.Subject, Scope: i.Scope,
		Family: i.Family, Number: id,
		Issued: r.time, End: clock.Add(r.time, i.Life),
	}
}

// ungiven is the answer where nothing was issued.
func ungiven(errno api.Errno) api.Answer {
	switch errno {
	case api.ErrGrantToken, api.ErrCodeToken, api.ErrCodeVerify:
		return refusal(400, "invalid_grant")
	case api.ErrGrantScope:
		return refusal(400, "invalid_scope")
	case api.ErrGrantMany:
		return refusal(400, "access_denied")
	}
	return failed(errno)
}

// failed is the answer to what is not the client's fault.
func failed(errno api.Errno) api.Answer {
	if errno == api.ErrArg {
		return refusal(500, "server_error")
	}
	return later()
}
