package token_test

import (
	"encoding/base64"
	"encoding/binary"
	"hash/crc32"
	"strings"

	"latchkey/api"
)

// This file says the chapter's words once more, as plainly as can be, without a layer of the project: the program is held against it.

func kindOK(kind int) bool { return kind == 1 || kind == 2 }

func idOK(id int) bool { return 1 <= id && id <= lastID }

// prefix is that of a kind.
func prefix(kind int) string { return []string{"", "lkr_", "lkc_"}[kind] }

// bytesOf are the ID by 8 bytes, the secret, the check by 4; whatever number the ID is.
func bytesOf(kind int, id uint64, secret string) string {
	b := append(binary.BigEndian.AppendUint64(nil, id), secret...)
	check := crc32.ChecksumIEEE(append([]byte(prefix(kind)), b...))
	return string(binary.BigEndian.AppendUint32(b, check))
}

// textOf is the text of a kind, a number and a secret.
func textOf(kind int, id uint64, secret string) string {
	return prefix(kind) + base64.RawURLEncoding.EncodeToString([]byte(bytesOf(kind, id, secret)))
}

// minted is what Mint must answer.
func minted(kind, id int, secret string) (string, api.Errno) {
	if !kindOK(kind) || !idOK(id) || len(secret) != 24 {
		return "", api.ErrArg
	}
	return textOf(kind, uint64(id), secret), api.OK
}

// parsed is what Parse must answer.
func parsed(kind int, s string) (int, string, api.Errno) {
	if !kindOK(kind) {
		return 0, "", api.ErrArg
	}
	if strings.HasPrefix(s, prefix(3-kind)) {
		return 0, "", api.ErrTokenKind
	}
	rest, begins := strings.CutPrefix(s, prefix(kind))
	b, err := base64.RawURLEncoding.Strict().DecodeString(rest)
	// The library passes over ends of lines, which are no signs.
	if len(s) != 52 || !begins || err != nil || strings.ContainsAny(rest, "\r\n") {
		return 0, "", api.ErrTokenForm
	}
	id, secret := binary.BigEndian.Uint64(b), string(b[8:32])
	if id < 1 || id > lastID {
		return 0, "", api.ErrTokenForm
	}
	if string(b) != bytesOf(kind, id, secret) {
		return 0, "", api.ErrTokenCheck
	}
	return int(id), secret, api.OK
}
