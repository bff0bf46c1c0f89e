package wire_test

import (
	"fmt"
	"math/rand"
	"regexp"
	"slices"
	"strconv"
	"strings"
	"testing"
	"unsafe"

	"latchkey/api"
	"latchkey/wire"
)

// lines puts a carriage return and a line feed in the place of each bar.
func lines(s string) string { return strings.ReplaceAll(s, "|", "\r\n") }

// many is a text so many times.
func many(n int, s string) string { return strings.Repeat(s, n) }

func sameMessage(a, b api.Message) bool {
	return a.Method == b.Method && a.Path == b.Path && a.Body == b.Body && slices.Equal(a.Headers, b.Headers)
}

func sameAnswer(a, b api.Answer) bool {
	return a.Status == b.Status && a.Body == b.Body && slices.Equal(a.Headers, b.Headers)
}

// The forms of the chapter, as expressions over a whole line.
var (
	messageForm = regexp.MustCompile(`\A([A-Z]{1,16}) (/[!-~]{0,199}) HTTP/1\.1\r\n\z`)
	answerForm  = regexp.MustCompile(`\AHTTP/1\.1 ([1-5][0-9][0-9]) [ -~]*\r\n\z`)
	headerForm  = regexp.MustCompile("\\A([a-zA-Z0-9!#$%&'*+\\-.^_|~\x60]{1,40}): *([ -~]*?) *\r\n\\z")
	lengthForm  = regexp.MustCompile(`\A(0|[1-9][0-9]*)\z`)
	methodForm  = regexp.MustCompile(`\A[A-Z]{1,16}\z`)
	pathForm    = regexp.MustCompile(`\A/[!-~]{0,199}\z`)
	nameForm    = regexp.MustCompile("\\A[a-zA-Z0-9!#$%&'*+\\-.^_|~\x60]{1,40}\\z")
	valueForm   = regexp.MustCompile(`\A([!-~]([ -~]*[!-~])?)?\z`)
)

// one is what stands at the beginning of a text.
type one struct {
	first   []string // what the first line's form has caught
	headers []api.Field
	body    string
	size    int       // its bytes; if it is wrong, those up to the one with which it is
	errno   api.Errno // ErrWireShort, if the text ends ahead of its end
}

func (o one) message() api.Message {
	return api.Message{Method: o.first[1], Path: o.first[2], Headers: o.headers, Body: o.body}
}

func (o one) answer() api.Answer {
	status, _ := strconv.Atoi(o.first[1])
	return api.Answer{Status: status, Headers: o.headers, Body: o.body}
}

// readOne is W2, line by line of a text that is there as a whole.
func readOne(s string, form *regexp.Regexp) one {
	var o one
	length := ""
	for at, n := 0, 0; ; n++ {
		rest := s[at:]
		feed := strings.IndexByte(rest, '\n')
		if feed >= 1002 || feed < 0 && len(rest) >= 1002 {
			return one{size: at + 1002, errno: api.ErrWireLong}
		}
		if feed < 0 {
			return one{size: len(s), errno: api.ErrWireShort}
		}
		line := rest[:feed+1]
		at += feed + 1
		if n > 0 && line == "\r\n" {
			size, _ := strconv.Atoi(length)
			if len(s)-at < size {
				return one{size: len(s), errno: api.ErrWireShort}
			}
			o.body, o.size = s[at:at+size], at+size
			return o
		}
		if n == 0 {
			if o.first = form.FindStringSubmatch(line); o.first == nil {
				return one{size: at, errno: api.ErrWireLine}
			}
			continue
		}
		if errno := o.line(line, &length); errno != api.OK {
			return one{size: at, errno: errno}
		}
	}
}

// line is W2 of a header's line, or the length's.
func (o *one) line(line string, length *string) api.Errno {
	caught := headerForm.FindStringSubmatch(line)
	if caught == nil {
		return api.ErrWireHeader
	}
	switch strings.ToLower(caught[1]) {
	case "transfer-encoding":
		return api.ErrWireHeader
	case "content-length":
		if *length != "" || !lengthForm.MatchString(caught[2]) {
			return api.ErrWireLength
		}
		if *length = caught[2]; len(*length) > 4 || len(*length) == 4 && *length > "4000" {
			return api.ErrWireLong
		}
		return api.OK
	}
	if len(o.headers) == 32 {
		return api.ErrWireLong
	}
	o.headers = append(o.headers, api.Field{Name: caught[1], Value: caught[2]})
	return api.OK
}

// readAll is all that stands in a text; the last one is wrong, or short.
func readAll(s string) []one {
	var all []one
	for {
		o := readOne(s, messageForm)
		all = append(all, o)
		if o.errno != api.OK {
			return all
		}
		s = s[o.size:]
	}
}

// want is what a reader must tell of a text, up to any of its bytes.
type want struct {
	messages []api.Message
	ends     []int // behind which byte each is whole
	errno    api.Errno
	wrong    int // behind which byte something is wrong; below 0: nothing is
}

func wantOf(s string) want {
	w := want{wrong: -1}
	at := 0
	for _, o := range readAll(s) {
		at += o.size
		switch o.errno {
		case api.OK:
			w.messages = append(w.messages, o.message())
			w.ends = append(w.ends, at)
		case api.ErrWireShort:
		default:
			w.errno, w.wrong = o.errno, at
		}
	}
	return w
}

// feed is what Feed must answer to the bytes behind from, up to to.
func (w want) feed(from, to int) ([]api.Message, api.Errno) {
	if w.wrong >= 0 && w.wrong <= from {
		return nil, api.ErrWireOver
	}
	var l []api.Message
	for n, end := range w.ends {
		if end > from && end <= to {
			l = append(l, w.messages[n])
		}
	}
	if w.wrong >= 0 && w.wrong <= to {
		return l, w.errno
	}
	return l, api.OK
}

// waiting is what Waiting must answer behind so many bytes.
func (w want) waiting(at int) int {
	if w.wrong >= 0 && w.wrong <= at {
		return 0
	}
	last := 0
	for _, end := range w.ends {
		if end <= at {
			last = end
		}
	}
	return at - last
}

// wantFed feeds a text, cut behind these bytes, to a new reader.
func wantFed(t *testing.T, s string, cuts []int) {
	t.Helper()
	w := wantOf(s)
	r := wire.NewReader()
	at := 0
	for _, cut := range append(slices.Clone(cuts), len(s)) {
		l, errno := r.Feed(s[at:cut])
		wantL, wantErrno := w.feed(at, cut)
		if errno != wantErrno || !slices.EqualFunc(l, wantL, sameMessage) {
			t.Fatalf("Feed(%q) behind %q = %q, %d, want %q, %d", s[at:cut], s[:at], l, errno, wantL, wantErrno)
		}
		at = cut
		for range 2 { // asking changes nothing
			if got := r.Waiting(); got != w.waiting(at) {
				t.Fatalf("Waiting behind %q = %d, want %d", s[:at], got, w.waiting(at))
			}
		}
	}
}

// eachByte are cuts behind all bytes.
func eachByte(s string) []int {
	cuts := make([]int, len(s))
	for n := range cuts {
		cuts[n] = n + 1
	}
	return cuts
}

// someCuts are cuts in their order, some of them at one place.
func someCuts(r *rand.Rand, s string) []int {
	cuts := make([]int, r.Intn(8))
	for n := range cuts {
		cuts[n] = r.Intn(len(s) + 1)
		if n > 0 && r.Intn(4) == 0 {
			cuts[n] = cuts[n-1]
		}
	}
	slices.Sort(cuts)
	return cuts
}

// wantRead is wantFed with a text as a whole, byte by byte, and with some cuts.
func wantRead(t *testing.T, r *rand.Rand, s string) {
	t.Helper()
	wantFed(t, s, nil)
	wantFed(t, s, eachByte(s))
	for range 3 {
		wantFed(t, s, someCuts(r, s))
	}
}

// wantParsed is W5.
func wantParsed(t *testing.T, s string) {
	t.Helper()
	o := readOne(s, answerForm)
	var want api.Answer
	rest := ""
	if o.errno == api.OK {
		want, rest = o.answer(), s[o.size:]
	}
	a, more, errno := wire.ParseAnswer(s)
	if errno != o.errno || more != rest || !sameAnswer(a, want) {
		t.Fatalf("ParseAnswer(%q) = %#v, %q, %d, want %#v, %q, %d", s, a, more, errno, want, rest, o.errno)
	}
}

// wantError is that a reader tells no message of a text, and this error with its last byte, however it is cut.
func wantError(t *testing.T, s string, errno api.Errno) {
	t.Helper()
	r := wire.NewReader()
	if l, e := r.Feed(s); len(l) != 0 || e != errno {
		t.Errorf("Feed(%q) = %q, %d, want %d", s, l, e, errno)
	}
	if l, e := r.Feed(""); len(l) != 0 || e != api.ErrWireOver {
		t.Errorf("Feed of nothing behind an error = %q, %d", l, e)
	}
	wantFed(t, s+"x", []int{len(s) - 1, len(s)})
	r = wire.NewReader()
	for n := range len(s) - 1 {
		if l, e := r.Feed(s[n : n+1]); len(l) != 0 || e != api.OK {
			t.Fatalf("Feed of byte %d of %q = %q, %d", n, s, l, e)
		}
	}
	if l, e := r.Feed(s[len(s)-1:]); len(l) != 0 || e != errno {
		t.Errorf("Feed of the last byte of %q = %q, %d, want %d", s, l, e, errno)
	}
}

// wantMessage is that a text is just this message, which is whole with its last byte.
func wantMessage(t *testing.T, s string, m api.Message) {
	t.Helper()
	r := wire.NewReader()
	if l, e := r.Feed(s[:len(s)-1]); len(l) != 0 || e != api.OK || r.Waiting() != len(s)-1 {
		t.Errorf("Feed(%q) = %q, %d", s[:len(s)-1], l, e)
	}
	l, e := r.Feed(s[len(s)-1:])
	if len(l) != 1 || e != api.OK || !sameMessage(l[0], m) {
		t.Errorf("Feed(%q) = %q, %d, want %q", s, l, e, m)
	}
	if r.Waiting() != 0 {
		t.Errorf("Waiting behind %q = %d", s, r.Waiting())
	}
}

// headersMayBe says it as the chapter's words do.
func headersMayBe(headers []api.Field) bool {
	for _, h := range headers {
		name := strings.ToLower(h.Name)
		if !nameForm.MatchString(h.Name) || !valueForm.MatchString(h.Value) || len(h.Name+": "+h.Value) > 1000 ||
			name == "content-length" || name == "transfer-encoding" {
			return false
		}
	}
	return len(headers) <= 32
}

// wantPrinted is W1 of a message.
func wantPrinted(m api.Message) (string, api.Errno) {
	if !methodForm.MatchString(m.Method) || !pathForm.MatchString(m.Path) || !headersMayBe(m.Headers) || len(m.Body) > 4000 {
		return "", api.ErrWireField
	}
	return fmt.Sprintf("%s %s HTTP/1.1\r\n", m.Method, m.Path) + printedRest(m.Headers, m.Body), api.OK
}

var reasons = map[int]string{
	200: "OK", 201: "Created", 400: "Bad Request", 401: "Unauthorized", 403: "Forbidden", 404: "Not Found", 405: "Method Not Allowed",
	415: "Unsupported Media Type", 429: "Too Many Requests", 500: "Internal Server Error", 503: "Service Unavailable",
}

// wantPrintedAnswer is W1 of an answer.
func wantPrintedAnswer(a api.Answer) (string, api.Errno) {
	if a.Status < 100 || a.Status > 599 || !headersMayBe(a.Headers) || len(a.Body) > 4000 {
		return "", api.ErrWireField
	}
	reason := "Status"
	if reasons[a.Status] != "" {
		reason = reasons[a.Status]
	}
	return fmt.Sprintf("HTTP/1.1 %03d %s\r\n", a.Status, reason) + printedRest(a.Headers, a.Body), api.OK
}

func printedRest(headers []api.Field, body string) string {
	s := ""
	for _, h := range headers {
		s += h.Name + ": " + h.Value + "\r\n"
	}
	return s + fmt.Sprintf("Content-Length: %d\r\n\r\n%s", len(body), body)
}

// memory is a piece of it: first and last byte.
type memory [2]uintptr

func textMemory(texts ...string) []memory {
	var all []memory
	for _, s := range texts {
		if p := uintptr(unsafe.Pointer(unsafe.StringData(s))); len(s) > 0 {
			all = append(all, memory{p, p + uintptr(len(s)) - 1})
		}
	}
	return all
}

// listMemory is where a list stands, with its spare room.
func listMemory[T any](l []T) []memory {
	var zero T
	size := uintptr(cap(l)) * unsafe.Sizeof(zero)
	if size == 0 {
		return nil
	}
	p := uintptr(unsafe.Pointer(unsafe.SliceData(l)))
	return []memory{{p, p + size - 1}}
}

func headersMemory(headers []api.Field) []memory {
	all := listMemory(headers)
	for _, h := range headers {
		all = append(all, textMemory(h.Name, h.Value)...)
	}
	return all
}

func messagesMemory(l []api.Message) []memory {
	all := listMemory(l)
	for _, m := range l {
		all = append(all, textMemory(m.Method, m.Path, m.Body)...)
		all = append(all, headersMemory(m.Headers)...)
	}
	return all
}

// share says whether some of these pieces lie over some of those.
func share(these, those []memory) bool {
	for _, a := range these {
		for _, b := range those {
			if a[0] <= b[1] && b[0] <= a[1] {
				return true
			}
		}
	}
	return false
}

// overlap says whether some of these pieces lie over one another.
func overlap(all []memory) bool {
	for n := range all {
		if share(all[n:n+1], all[n+1:]) {
			return true
		}
	}
	return false
}
