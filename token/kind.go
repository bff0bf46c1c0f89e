package token

import "latchkey/api"

// What the texts of each kind begin with.
const (
	refreshPrefix = "lkr_"
	grantPrefix   = "lkc_"
	prefixSize    = len(refreshPrefix) // the other one has as many bytes
)

func isKind(kind int) bool { return kind == api.Refresh || kind == api.Grant }

func isID(id int) bool { return id >= 1 && id <= api.MaxID }

// prefixes are the one of a kind, and the one of the other kind.
func prefixes(kind int) (own, other string) {
	if kind == api.Refresh {
		return refreshPrefix, grantPrefix
	}
	return grantPrefix, refreshPrefix
}
