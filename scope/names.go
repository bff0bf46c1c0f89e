package scope

import (
	"strings"

	"latchkey/api"
)

// wrong is why a list is no scope, or OK.
func wrong(l []string) api.Errno {
	for n, name := range l {
		if !isName(name) || n > 0 && name <= l[n-1] {
			return api.ErrScopeName
		}
	}
	return tooMany(l)
}

// tooMany is whether names that rise are too many for a scope, or too long.
func tooMany(names []string) api.Errno {
	if len(names) > api.MaxScopes || len(text(names)) > api.MaxScope {
		return api.ErrScopeMany
	}
	return api.OK
}

func isName(s string) bool {
	if len(s) == 0 || len(s) > api.MaxName {
		return false
	}
	for n := range len(s) {
		if !isSign(s[n]) {
			return false
		}
	}
	return true
}

func isSign(c byte) bool {
	return 'a' <= c && c <= 'z' || '0' <= c && c <= '9' || c == '-' || c == '_' || c == '.'
}

// text is names with a space between each two. (strings.Join would hand out the memory of a name that stands alone.)
func text(names []string) string {
	var out strings.Builder
	for n, name := range names {
		if n > 0 {
			out.WriteByte(' ')
		}
		out.WriteString(name)
	}
	return out.String()
}
