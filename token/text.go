package token

import (
	"strings"

	"latchkey/api"
	"latchkey/codec"
	"latchkey/hash"
)

const (
	idSize    = 8
	checkSize = 4
	bodySize  = idSize + api.SecretSize + checkSize
	textSize  = prefixSize + bodySize/3*4 // a sign of Base64 is worth six bits
)

// text is that of a kind, an ID and a secret which may be.
func text(kind, id int, secret string) string {
	prefix, _ := prefixes(kind)
	bytes := named(id, secret)
	w := codec.NewWriter()
	w.Raw(bytes)
	w.Num(checkSize, check(prefix, bytes))
	body, _ := w.Done() // a CRC stands by four bytes, whatever it is
	return prefix + codec.Base64(body)
}

// named is an ID and a secret as bytes.
func named(id int, secret string) string {
	w := codec.NewWriter()
	w.Num(idSize, id)
	w.Raw(secret)
	bytes, _ := w.Done() // an ID stands by eight bytes
	return bytes
}

// check has the prefix in it, so that a text is of one kind alone.
func check(prefix, bytes string) int { return int(hash.CRC(prefix + bytes)) }

// readAs reads a text that is to be one of a kind.
func readAs(kind int, s string) (int, string, error) {
	id, secret, wrong := read(kind, s)
	if wrong != nil {
		return 0, "", fault{kind, wrong}
	}
	return id, secret, nil
}

// read is what stands in a text, or what is wrong with it first.
func read(kind int, s string) (int, string, error) {
	own, other := prefixes(kind)
	if strings.HasPrefix(s, other) {
		return 0, "", errOther
	}
	if len(s) != textSize || !strings.HasPrefix(s, own) {
		return 0, "", errForm
	}
	body, errno := codec.FromBase64(s[prefixSize:])
	if errno != api.OK {
		return 0, "", errForm
	}
	r := codec.NewReader(body)
	id, secret, shown := r.Num(idSize), r.Raw(api.SecretSize), r.Num(checkSize)
	if r.Done() != api.OK || !isID(id) { // eight bytes may say more than an int holds, which Done tells
		return 0, "", errForm
	}
	if shown != check(own, named(id, secret)) {
		return 0, "", errCheck
	}
	return id, secret, nil
}
