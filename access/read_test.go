package access_test

import (
	"encoding/base64"
	"fmt"
	"math/rand"
	"strings"
	"testing"

	"latchkey/access"
	"latchkey/api"
)

// some are tokens with their issuers: of one, two and three parts of a group of Base64 left over, and with signs of all kinds.
func some() []struct{ issuer, s string } {
	long := api.Claims{Client: many(16, "c"), Subject: many(16, "s"), Scope: eight(), Family: lastNumber, Number: lastNumber, Issued: 0, End: lastTime}
	none := api.Claims{Client: "c", Subject: "s", Family: 1, Number: 1, Issued: 0, End: 0}
	return []struct{ issuer, s string }{
		{"home", example},
		{"a", tokenOf(1, secret(1), "a", none)},
		{"work", tokenOf(12, secret(2), "work", claims())},
		{many(16, "i"), tokenOf(lastKey, secret(3), many(16, "i"), long)},
	}
}

// A2: what was signed, with each byte turned into each other one. Whatever is read then says other claims, another number, or has another MAC.
func TestReadTurned(t *testing.T) {
	for _, token := range some()[:3] {
		was, number, _ := access.Read(token.issuer, token.s)
		for at := range len(token.s) {
			for b := range 256 {
				s := token.s[:at] + string([]byte{byte(b)}) + token.s[at+1:]
				if !wantRead(t, token.issuer, s) || s == token.s {
					continue
				}
				c, n, _ := access.Read(token.issuer, s)
				if behind := at > strings.LastIndex(token.s, "."); behind != (same(c, was) && n == number) {
					t.Fatalf("%q is read as %#v, %d", s, c, n)
				}
			}
		}
	}
}

// A2: what was signed, with each byte dropped, with a byte put in anywhere, and cut anywhere.
func TestReadDropped(t *testing.T) {
	for _, token := range some() {
		for at := range len(token.s) + 1 {
			for _, b := range []string{"A", "w", "-", "_", "+", "/", "=", ".", "..", " ", "\n", "\r\n", "\x00", "\xff", "é", "AA", "AAA", "AAAA"} {
				wantNoRead(t, token.issuer, token.s[:at]+b+token.s[at:])
			}
			if at == len(token.s) {
				continue
			}
			wantNoRead(t, token.issuer, token.s[:at]+token.s[at+1:])
			wantNoRead(t, token.issuer, token.s[:at])
			if at > 0 {
				wantNoRead(t, token.issuer, token.s[at:])
			}
		}
	}
}

// wantNoRead is that a text is read by nobody, neither by the model nor by the program.
func wantNoRead(t *testing.T, issuer, s string) {
	t.Helper()
	if wantRead(t, issuer, s) {
		t.Fatalf("Read(%q, %q): it is a token", issuer, s)
	}
}

// A2: a part more, a part less, parts in another order, parts of no bytes.
func TestReadParts(t *testing.T) {
	l := strings.Split(example, ".")
	head, body, mac := l[0], l[1], l[2]
	for _, s := range []string{
		"", ".", "..", "...", "....", head, body, mac, head + "." + body, body + "." + mac, head + "." + mac, head + body + mac, head + "." + body + mac, head + body + "." + mac,
		body + "." + head + "." + mac, mac + "." + body + "." + head, head + "." + mac + "." + body,
		head + "." + body + ".", head + ".." + mac, "." + body + "." + mac, head + "." + body + ".." + mac, "." + example, example + ".", "." + example + ".",
		example + "." + mac, example + "." + example, head + "." + example, example + "\n" + example, " " + example, example + " ", example + "\n", "Bearer " + example,
		head + ":" + body + ":" + mac, head + "," + body + "," + mac, head + "\x00" + body + "\x00" + mac, head + "%2E" + body + "%2E" + mac,
	} {
		wantNoRead(t, "home", s)
	}
	if !wantRead(t, "home", head+"."+body+"."+mac) {
		t.Fatal("the test is wrong")
	}
}

// A2: last parts of any number of bytes: 32 of any kind do.
func TestReadMAC(t *testing.T) {
	ahead := example[:strings.LastIndex(example, ".")+1]
	r := rand.New(rand.NewSource(1))
	for n := range 80 {
		random := make([]byte, n)
		r.Read(random)
		for _, said := range []string{many(n, "\x00"), many(n, "\xff"), many(n, "A"), string(random)} {
			if is := wantRead(t, "home", ahead+lettersOf(said)); is != (n == 32) {
				t.Fatalf("a last part of %d bytes: %v", n, is)
			}
		}
	}
	for _, bytes := range []string{many(32, "\xff"), many(32, "\xfb"), many(32, "\x00")} {
		if s := ahead + base64.StdEncoding.EncodeToString([]byte(bytes)); wantRead(t, "home", s) {
			t.Fatalf("%q", s)
		}
	}
}

// A2: each part in other letters: the other alphabet, with fillers, with loose bits, with lines.
func TestReadLetters(t *testing.T) {
	for _, token := range some() {
		l := strings.Split(token.s, ".")
		for n, piece := range l {
			for _, other := range []string{
				piece + "=", piece + "==", piece + "===", strings.NewReplacer("-", "+", "_", "/").Replace(piece) + "=", "=" + piece,
				piece[:4] + "\n" + piece[4:], piece[:4] + "\r\n" + piece[4:], piece[:4] + " " + piece[4:], piece + "A", piece + "AA", piece + "AAA", piece + "AAAA", piece[:len(piece)-1] + "=",
				strings.ToLower(piece) + "A", strings.ToUpper(piece) + "A",
			} {
				parts := []string{l[0], l[1], l[2]}
				parts[n] = other
				wantNoRead(t, token.issuer, strings.Join(parts, "."))
			}
			for _, bits := range loose(piece) {
				parts := []string{l[0], l[1], l[2]}
				parts[n] = bits
				wantNoRead(t, token.issuer, strings.Join(parts, "."))
			}
			if other := strings.NewReplacer("-", "+", "_", "/").Replace(piece); other != piece {
				parts := []string{l[0], l[1], l[2]}
				parts[n] = other
				wantNoRead(t, token.issuer, strings.Join(parts, "."))
			}
		}
	}
}

// loose are the letters with other bits behind the last byte.
func loose(piece string) []string {
	const letters = "ABCDEFGHIJKLMNOPQRSTUVWXYZabcdefghijklmnopqrstuvwxyz0123456789-_"
	free := map[int]int{0: 1, 2: 16, 3: 4}[len(piece)%4]
	last := strings.IndexByte(letters, piece[len(piece)-1])
	var l []string
	for n := 1; n < free; n++ {
		l = append(l, piece[:len(piece)-1]+letters[last+n:last+n+1])
	}
	return l
}

// otherHeads are heads that are no key's, many of which say the same as the key 3's in another way.
func otherHeads() []string {
	l := []string{
		`{"alg":"HS256","kid":"3","typ":"at+jwt"} `, ` {"alg":"HS256","kid":"3","typ":"at+jwt"}`, "{\"alg\":\"HS256\",\"kid\":\"3\",\"typ\":\"at+jwt\"}\n",
		`{ "alg":"HS256","kid":"3","typ":"at+jwt"}`, `{"alg": "HS256","kid":"3","typ":"at+jwt"}`, `{"alg":"HS256", "kid":"3","typ":"at+jwt"}`,
		`{"alg":"HS256","typ":"at+jwt","kid":"3"}`, `{"kid":"3","alg":"HS256","typ":"at+jwt"}`, `{"typ":"at+jwt","kid":"3","alg":"HS256"}`,
		`{"alg":"HS256","kid":"3","kid":"3","typ":"at+jwt"}`, `{"alg":"HS256","kid":"3"}`, `{"alg":"HS256","typ":"at+jwt"}`, `{"kid":"3","typ":"at+jwt"}`, `{}`,
		`{"alg":"HS256","kid":"3","typ":"at+jwt","x":1}`, `{"a":1,"alg":"HS256","kid":"3","typ":"at+jwt"}`, `{"alg":"HS256","crit":[],"kid":"3","typ":"at+jwt"}`,
		`{"alg":"HS256","kid":"3","typ":"at\u002bjwt"}`, `{"alg":"HS256","kid":"\u0033","typ":"at+jwt"}`, `{"\u0061lg":"HS256","kid":"3","typ":"at+jwt"}`,
		`{"alg":"none","kid":"3","typ":"at+jwt"}`, `{"alg":"hs256","kid":"3","typ":"at+jwt"}`, `{"alg":"HS384","kid":"3","typ":"at+jwt"}`, `{"alg":"RS256","kid":"3","typ":"at+jwt"}`, `{"alg":"","kid":"3","typ":"at+jwt"}`, `{"alg":null,"kid":"3","typ":"at+jwt"}`,
		`{"alg":"HS256","kid":"3","typ":"JWT"}`, `{"alg":"HS256","kid":"3","typ":"at+JWT"}`, `{"alg":"HS256","kid":"3","typ":"application/at+jwt"}`, `{"alg":"HS256","kid":"3","typ":null}`,
		`{"alg":"HS256","kid":3,"typ":"at+jwt"}`, `{"alg":"HS256","kid":["3"],"typ":"at+jwt"}`, `{"alg":"HS256","kid":{"kid":"3"},"typ":"at+jwt"}`, `{"alg":"HS256","kid":null,"typ":"at+jwt"}`, `{"alg":"HS256","kid":true,"typ":"at+jwt"}`,
		`[{"alg":"HS256","kid":"3","typ":"at+jwt"}]`, `"{\"alg\":\"HS256\",\"kid\":\"3\",\"typ\":\"at+jwt\"}"`, `["HS256","3","at+jwt"]`, `"3"`, `3`, `null`, `true`, ``, ` `, `{`, `}`, `{"alg":"HS256","kid":"3","typ":"at+jwt"`,
		`{"alg":"HS256","kid":"3","typ":"at+jwt"}}`, `{"alg":"HS256","kid":"3","typ":"at+jwt"},`, "\xef\xbb\xbf" + `{"alg":"HS256","kid":"3","typ":"at+jwt"}`, "\xff", headOf(3) + headOf(3),
		`{'alg':'HS256','kid':'3','typ':'at+jwt'}`, `{"alg":"HS256","kid":"3","typ":"at+jwt",}`, headOf(3) + many(4000, " "), many(4000, " ") + headOf(3), many(5000, "{"),
	}
	for _, kid := range []string{
		"", "0", "00", "03", "003", "+3", "-3", "-1", "-0", "+0", " 3", "3 ", "3.0", "3e0", "0x3", "0b11", "0o3", "3_0", "1_000", "٣", "３", "three", "3\\n", "3,", "\\u00003", "1073741825", "1073741833",
		"9007199254740991", "9007199254740992", "4294967299", "9223372036854775807", "9223372036854775808", "18446744073709551619", many(100, "9"), many(3000, "0") + "3", "inf", "NaN",
	} {
		l = append(l, `{"alg":"HS256","kid":"`+kid+`","typ":"at+jwt"}`)
	}
	return l
}

// A2: heads.
func TestReadHeads(t *testing.T) {
	body := claimsOf("home", claims())
	for _, head := range otherHeads() {
		s := underOf(three().Secret, head, body)
		wantNoRead(t, "home", s)
		wantErrno(t, head, wantVerify(t, []api.Key{three()}, "home", s, 20), api.ErrAccessForm)
	}
	for _, number := range []int{1, 2, 3, 9, 10, 99, 100, 1 << 20, lastKey - 1, lastKey} {
		if _, n, errno := access.Read("home", tokenOf(number, secret(1), "home", claims())); n != number || errno != api.OK {
			t.Fatalf("the key %d: %d, %d", number, n, errno)
		}
	}
}

// otherBodies are claims' texts that are none, many of which say the same as the example's in another way.
func otherBodies() []string {
	plain := claimsOf("home", claims())
	l := []string{
		plain + " ", " " + plain, plain + "\n", plain + "\t", "\xef\xbb\xbf" + plain, plain + plain, plain + ",", plain + "}", plain[:len(plain)-1], plain[1:], "[" + plain + "]",
		"", "{}", "null", "[]", "1", `""`, "{", plain + many(4000, " "), many(4000, " ") + plain, many(5000, "["), "\xff", strings.ReplaceAll(plain, `"`, `'`),
		strings.Replace(plain, ",", ", ", 1), strings.Replace(plain, ":", ": ", 1), strings.ReplaceAll(plain, ",", " ,"), strings.ReplaceAll(plain, ":", " :"),
		strings.Replace(plain, "}", ",}", 1), strings.Replace(plain, "}", `,"zzz":1}`, 1), strings.Replace(plain, "{", `{"aud":"x",`, 1), strings.Replace(plain, `"iss"`, `"host":"x","iss"`, 1), strings.Replace(plain, "}", `,"sub":"ann"}`, 1),
		strings.Replace(plain, "{", `{"client_id":"app",`, 1), strings.Replace(plain, `"exp":40,`, `"exp":40,"exp":40,`, 1), strings.Replace(plain, `"exp":40`, `"exp":40,"nbf":20`, 1),
		strings.Replace(plain, `"app"`, `"\u0061pp"`, 1), strings.Replace(plain, `"ann"`, `"ann\u0020"`, 1), strings.Replace(plain, `"sub"`, `"\u0073ub"`, 1), strings.Replace(plain, `"ann"`, `"ann\/"`, 1),
		strings.Replace(plain, "{", "{\"\":0,", 1), strings.Replace(plain, `"iss":"home"`, `"iss":"home\u0000"`, 1),
	}
	for _, member := range []string{`"client_id":"app",`, `"exp":40,`, `"fam":1,`, `"iat":20,`, `"iss":"home",`, `"jti":2,`, `"scope":"read",`} {
		l = append(l, strings.Replace(plain, member, "", 1), strings.Replace(plain, member, member+member, 1))
		moved := strings.Replace(plain, member, "", 1)
		l = append(l, moved[:len(moved)-1]+","+member[:len(member)-1]+"}")
		if !strings.HasPrefix(member, `"client_id"`) {
			l = append(l, "{"+member+moved[1:])
		}
		name := member[:strings.Index(member, ":")]
		for _, value := range []string{"null", "true", "[]", "{}", `[1]`, `["read"]`} {
			l = append(l, strings.Replace(plain, member, name+":"+value+",", 1))
		}
		l = append(l, strings.Replace(plain, name, strings.ToUpper(name), 1))
	}
	for _, member := range []struct{ name, is string }{{"exp", "40"}, {"fam", "1"}, {"iat", "20"}, {"jti", "2"}} {
		for _, is := range []string{
			`"` + member.is + `"`, "0" + member.is, "00" + member.is, "+" + member.is, "-" + member.is, member.is + ".0", member.is + ".", member.is + "e0", member.is + "E0", member.is + "e+0", "0x" + member.is, member.is + "0e-1",
			member.is + " ", " " + member.is, "-0", "-1", "", "1.5", "9007199254740992", "9223372036854775808", "18446744073709551617", many(300, "9"),
		} {
			l = append(l, strings.Replace(plain, `"`+member.name+`":`+member.is, `"`+member.name+`":`+is, 1))
		}
	}
	for _, member := range []string{`"client_id":"app"`, `"sub":"ann"`, `"iss":"home"`} {
		name := member[:strings.Index(member, ":")]
		for _, value := range []string{"1", `""`, `"App"`, `"a b"`, `"` + many(17, "a") + `"`, `"` + many(3000, "a") + `"`, `"a\n"`, `"é"`, `"\""`, "\"\x00\"", "\"\xff\""} {
			l = append(l, strings.Replace(plain, member, name+":"+value, 1))
		}
	}
	for _, value := range []string{"read ", " read", "read  write", "read read", "write read", "READ", "read,write", "read\\u0020write", "a b c d e f g h i", many(17, "a"), strings.Join([]string{many(15, "a"), many(15, "b"), many(15, "c"), many(15, "d")}, " "), " ", "read\\twrite", "*"} {
		l = append(l, strings.Replace(plain, `"scope":"read"`, `"scope":"`+value+`"`, 1))
	}
	for _, value := range []string{"1", `["read"]`, "null"} {
		l = append(l, strings.Replace(plain, `"scope":"read"`, `"scope":`+value, 1))
	}
	return l
}

// A2: claims' texts.
func TestReadBodies(t *testing.T) {
	for n, body := range otherBodies() {
		if body == claimsOf("home", claims()) {
			t.Fatalf("the test is wrong: %d", n)
		}
		s := underOf(three().Secret, headOf(3), body)
		wantNoRead(t, "home", s)
		wantErrno(t, body, wantVerify(t, []api.Key{three()}, "home", s, 20), api.ErrAccessForm)
	}
}

// A2: claims that may not be, in a text that is made like a token's; and such as may be. (A list that is no scope may stand as the text of one that is: then that is read.)
func TestReadClaims(t *testing.T) {
	for _, turned := range claimTurns() {
		c := claims()
		turned.change(&c)
		s := tokenOf(3, secret(1), "home", c)
		wantRead(t, "home", s)
		if read, _, errno := access.Read("home", s); (errno == api.OK && same(read, c)) != turned.mayBe {
			t.Fatalf("%s: %#v, %d", turned.what, read, errno)
		}
	}
}

// A2: another issuer, and one that is no name, also if the text says the same.
func TestReadIssuers(t *testing.T) {
	for _, issuer := range rightNames() {
		s := tokenOf(3, secret(1), issuer, claims())
		for _, by := range rightNames() {
			if is := wantRead(t, by, s); is != (by == issuer) {
				t.Fatalf("Read(%q) of %q's: %v", by, issuer, is)
			}
		}
	}
	for _, issuer := range wrongNames() {
		wantNoRead(t, issuer, example)
		wantNoRead(t, issuer, tokenOf(3, secret(1), issuer, claims()))
		wantNoRead(t, "home", tokenOf(3, secret(1), issuer, claims()))
	}
}

// A2: of no two texts the one is read as the other: all that was read is said again by the same claims, number, issuer and MAC.
func TestReadOneWay(t *testing.T) {
	r := rand.New(rand.NewSource(2))
	for range 20000 {
		token := drawn(r, some()...)
		s := token.s
		for range 1 + r.Intn(3) {
			s = mangled(r, s)
		}
		if wantRead(t, token.issuer, s) {
			c, n, _ := access.Read(token.issuer, s)
			if again := tokenOf(n, secret(1), token.issuer, c); again[:strings.LastIndex(again, ".")] != s[:strings.LastIndex(s, ".")] {
				t.Fatalf("%q was read as %q", s, again)
			}
		}
	}
}

// mangled is a text with something changed in it, most often so that it is made like a token still.
func mangled(r *rand.Rand, s string) string {
	at := r.Intn(len(s) + 1)
	switch r.Intn(6) {
	case 0:
		return s[:at] + drawn(r, ".", "A", "=", "e", "\n", "_") + s[at:]
	case 1:
		return s[:at] + s[min(at+1+r.Intn(4), len(s)):]
	}
	l := strings.Split(s, ".")
	n := r.Intn(len(l))
	said, is := bytesOf(l[n])
	if !is || said == "" {
		return s
	}
	bytes := []byte(said)
	bytes[r.Intn(len(bytes))] = drawn(r, byte('0'), '1', '9', 'a', 'z', ' ', '"', '.', '-', byte(r.Intn(256)))
	l[n] = lettersOf(string(bytes))
	return strings.Join(l, ".")
}

// R1: texts that are very long, or have very many parts.
func TestReadLong(t *testing.T) {
	for _, s := range []string{many(1<<20, "A"), many(1<<20, "."), many(1<<20, "A."), example + many(1<<20, "A"), many(1<<20, "A") + example, many(1<<20, "\xff"), many(1<<18, example+".")} {
		wantNoRead(t, "home", s)
		wantNoRead(t, s, example)
		wantNoRead(t, s, s)
	}
	for _, pieces := range [][3]string{{many(1<<20, "A"), "", ""}, {"", many(1<<20, "A"), ""}, {"", "", many(1<<20, "A")}} {
		l := strings.Split(example, ".")
		for n := range l {
			l[n] += pieces[n]
		}
		wantNoRead(t, "home", strings.Join(l, "."))
	}
	deep := many(2000, `{"kid":`) + `"3"` + many(2000, "}")
	wantNoRead(t, "home", underOf(secret(1), deep, claimsOf("home", claims())))
	wantNoRead(t, "home", underOf(secret(1), headOf(3), fmt.Sprintf(`{"client_id":%s}`, many(1900, "[")+many(1900, "]"))))
}
