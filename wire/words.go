package wire

import (
	"strings"

	"latchkey/api"
)

// What stands between the parts, and the names that say how long a body is.
const (
	version      = "HTTP/1.1"
	lineEnd      = "\r\n"
	headerMark   = ": "
	lengthName   = "Content-Length"
	transferName = "Transfer-Encoding"
)

// How many bytes some parts may have.
const (
	maxMethod     = 16
	maxPath       = 200
	maxHeaderName = 40
)

// The signs that may stand in a header's name beside letters and digits.
const nameSigns = "!#$%&'*+-.^_`|~"

// all says whether each byte of a text is such a one.
func all(s string, such func(b byte) bool) bool {
	for n := range len(s) {
		if !such(s[n]) {
			return false
		}
	}
	return true
}

func isUpper(b byte) bool { return b >= 'A' && b <= 'Z' }

func isDigit(b byte) bool { return b >= '0' && b <= '9' }

// isShown is what may stand in a header's value and in a reason.
func isShown(b byte) bool { return b >= ' ' && b <= '~' }

func isPathByte(b byte) bool { return isShown(b) && b != ' ' }

func isNameByte(b byte) bool {
	return b >= 'a' && b <= 'z' || isUpper(b) || isDigit(b) || strings.IndexByte(nameSigns, b) >= 0
}

func isMethod(s string) bool {
	return len(s) >= 1 && len(s) <= maxMethod && all(s, isUpper)
}

func isPath(s string) bool {
	return len(s) <= maxPath && strings.HasPrefix(s, "/") && all(s, isPathByte)
}

func isStatus(n int) bool { return n >= 100 && n <= 599 }

func isHeaderName(s string) bool {
	return len(s) >= 1 && len(s) <= maxHeaderName && all(s, isNameByte)
}

func isHeaderValue(s string) bool {
	return all(s, isShown) && !strings.HasPrefix(s, " ") && !strings.HasSuffix(s, " ")
}

func isHeader(f api.Field) bool {
	return len(f.Name)+len(headerMark)+len(f.Value) <= api.MaxLine &&
		isHeaderName(f.Name) && isHeaderValue(f.Value) &&
		!alike(f.Name, lengthName) && !alike(f.Name, transferName)
}

// mayFollow says whether these headers and this body may stand behind a first line.
func mayFollow(headers []api.Field, body string) bool {
	if len(headers) > api.MaxFields || len(body) > api.MaxBody {
		return false
	}
	for _, h := range headers {
		if !isHeader(h) {
			return false
		}
	}
	return true
}

// alike says whether two names are the same but for the case of their letters. The library's folding counts more than the letters A to Z.
func alike(a, b string) bool {
	if len(a) != len(b) {
		return false
	}
	for n := range len(a) {
		if lower(a[n]) != lower(b[n]) {
			return false
		}
	}
	return true
}

func lower(b byte) byte {
	if isUpper(b) {
		return b + ('a' - 'A')
	}
	return b
}

// reason is what is told beside a status.
func reason(status int) string {
	switch status {
	case 200:
		return "OK"
	case 201:
		return "Created"
	case 400:
		return "Bad Request"
	case 401:
		return "Unauthorized"
	case 403:
		return "Forbidden"
	case 404:
		return "Not Found"
	case 405:
		return "Method Not Allowed"
	case 415:
		return "Unsupported Media Type"
	case 429:
		return "Too Many Requests"
	case 500:
		return "Internal Server Error"
	case 503:
		return "Service Unavailable"
	}
	return "Status"
}
