package codec_test

import (
	"encoding/base64"
	"encoding/hex"
	"math/rand"
	"strings"
	"testing"

	"latchkey/api"
	"latchkey/codec"
)

// letters is one form of bytes as letters, and another's word on it.
type letters struct {
	name     string
	tell     func(s string) string
	read     func(s string) (string, api.Errno)
	wantTell func(s string) string
	wantRead func(s string) (string, bool)
}

// strict reads by the library, which passes over ends of lines: no text of letters has any.
func strict(e *base64.Encoding) func(s string) (string, bool) {
	e = e.Strict()
	return func(s string) (string, bool) {
		b, err := e.DecodeString(s)
		return string(b), err == nil && !strings.ContainsAny(s, "\r\n")
	}
}

func forms() []letters {
	return []letters{
		{"Base64", codec.Base64, codec.FromBase64,
			func(s string) string { return base64.RawURLEncoding.EncodeToString([]byte(s)) },
			strict(base64.RawURLEncoding)},
		{"Standard", codec.Standard, codec.FromStandard,
			func(s string) string { return base64.StdEncoding.EncodeToString([]byte(s)) },
			strict(base64.StdEncoding)},
		{"Hex", codec.Hex, codec.FromHex,
			func(s string) string { return hex.EncodeToString([]byte(s)) },
			func(s string) (string, bool) {
				b, err := hex.DecodeString(s)
				return string(b), err == nil && s == strings.ToLower(s)
			}},
	}
}

// wantThereAndBack: a text is told as the library tells it, and read again.
func wantThereAndBack(t *testing.T, f letters, s string) {
	t.Helper()
	told := f.tell(s)
	if want := f.wantTell(s); told != want {
		t.Fatalf("%s(%q): %q, want %q", f.name, s, told, want)
	}
	if back, e := f.read(told); back != s || e != api.OK {
		t.Fatalf("%s: %q is read as %q %d, want %q", f.name, told, back, e, s)
	}
}

// wantRead: letters are read as the library reads them, or refused.
func wantRead(t *testing.T, f letters, s string) {
	t.Helper()
	want, ok := f.wantRead(s)
	wantErr := api.OK
	if !ok {
		want, wantErr = "", api.ErrCodecForm
	}
	if got, e := f.read(s); got != want || e != wantErr {
		t.Fatalf("From%s(%q): %q %d, want %q %d", f.name, s, got, e, want, wantErr)
	}
}

// each gives every text of n of these bytes.
func each(kinds string, n int, give func(s string)) {
	b := make([]byte, n)
	var fill func(at int)
	fill = func(at int) {
		if at == n {
			give(string(b))
			return
		}
		for k := range len(kinds) {
			b[at] = kinds[k]
			fill(at + 1)
		}
	}
	fill(0)
}

// all is every byte once.
func all() string {
	b := make([]byte, 256)
	for n := range b {
		b[n] = byte(n)
	}
	return string(b)
}

// C5, C6, C7.

func TestLettersTellEachText(t *testing.T) {
	for _, f := range forms() {
		for n := range 3 {
			each(all(), n, func(s string) { wantThereAndBack(t, f, s) })
		}
		kinds := "\x00\x01\x03\x04\x0f\x10\x3f\x40\x7f\x80\xaa\xbe\xef\xf0\xfb\xfc\xfeazAZ09"
		for n := 3; n <= 4; n++ {
			each(kinds[:len(kinds)-7*(n-3)], n, func(s string) { wantThereAndBack(t, f, s) })
		}
		for n := range 300 {
			wantThereAndBack(t, f, text(n, int64(n)))
		}
		wantThereAndBack(t, f, all())
		wantThereAndBack(t, f, text(1<<20+1, 6))
	}
}

func TestLettersReadEachText(t *testing.T) {
	for _, f := range forms() {
		for n := range 3 {
			each(all(), n, func(s string) { wantRead(t, f, s) })
		}
		for n := 3; n <= 4; n++ {
			each("AQgwBRYZaf09F8-_+/=. \n\x00\xc1", n, func(s string) { wantRead(t, f, s) })
		}
		for n := 5; n <= 8; n++ {
			each("AR_/=", n, func(s string) { wantRead(t, f, s) })
		}
	}
}

func TestLettersReadSpoiltTexts(t *testing.T) {
	r := rand.New(rand.NewSource(8))
	for _, f := range forms() {
		for n := range 4000 {
			told := f.tell(text(r.Intn(60), int64(n)))
			wantRead(t, f, told+"=")
			wantRead(t, f, told+"==")
			wantRead(t, f, told+"A")
			wantRead(t, f, strings.ToUpper(told))
			if len(told) == 0 {
				continue
			}
			at := r.Intn(len(told))
			wantRead(t, f, told[:at])
			wantRead(t, f, told[at:])
			wantRead(t, f, told[:at]+told[at+1:])
			wantRead(t, f, told[:at]+string([]byte{byte(r.Intn(256))})+told[at+1:])
			last := len(told) - 1
			wantRead(t, f, told[:last]+string([]byte{told[last] + 1}))
			wantRead(t, f, strings.TrimRight(told, "="))
		}
	}
}

func TestLettersOfOtherForms(t *testing.T) {
	for _, f := range forms() {
		for _, g := range forms() {
			for n := range 70 {
				wantRead(t, f, g.tell(text(n, int64(n))))
			}
		}
	}
}

// Example 4.
func TestLettersExamples(t *testing.T) {
	for _, c := range []struct {
		tell    func(s string) string
		s, want string
	}{
		{codec.Base64, "", ""}, {codec.Standard, "", ""}, {codec.Hex, "", ""},
		{codec.Base64, "a", "YQ"}, {codec.Base64, "\xff\xfe", "__4"},
		{codec.Standard, "a", "YQ=="}, {codec.Standard, "\xff\xfe", "//4="},
		{codec.Hex, "\x00\xff", "00ff"},
	} {
		if got := c.tell(c.s); got != c.want {
			t.Errorf("%q: %q, want %q", c.s, got, c.want)
		}
	}
	for _, c := range []struct {
		read func(s string) (string, api.Errno)
		l    []string
	}{
		{codec.FromBase64, []string{"YR", "YQ==", "YQ=", "Y", "//4", "++++", "__5", "Y\n", "YQ\n", "YWJj\n", " YQ"}},
		{codec.FromStandard, []string{"YQ", "YR==", "YQ=", "Y===", "=", "==", "===", "====", "__4=", "----", "//5=", "YWJj=", "YWJj====", "YQ==YQ==", "Y=Q=", "YQ==\n", "\nYQ="}},
		{codec.FromHex, []string{"0F", "F0", "0", "000", "0g", "g0", "0x", " 0", "00\n", "==", "`0", "0:", "0/"}},
	} {
		for _, s := range c.l {
			if got, e := c.read(s); got != "" || e != api.ErrCodecForm {
				t.Errorf("%q is read: %q %d", s, got, e)
			}
		}
	}
}

// C8, of the letters: what is read is told by just these letters, and each text has its own.
func TestLettersAreOneToOne(t *testing.T) {
	for _, f := range forms() {
		taken := map[string]string{}
		for n := range 3 {
			each("\x00\x01\x10\x80\xf8\xff", n+1, func(s string) {
				if old, ok := taken[f.tell(s)]; ok {
					t.Errorf("%s: %q and %q have the same letters", f.name, old, s)
				}
				taken[f.tell(s)] = s
			})
		}
		for n := range 5 {
			each("AQRgwYab09f-_+/= ", n, func(s string) {
				if back, e := f.read(s); e == api.OK && f.tell(back) != s {
					t.Errorf("%s: %q is read as %q, which is told as %q", f.name, s, back, f.tell(back))
				}
			})
		}
	}
}
