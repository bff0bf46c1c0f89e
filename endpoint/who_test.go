package endpoint_test

import (
	"encoding/base64"
	"testing"

	"latchkey/api"
	"latchkey/client"
	"latchkey/table"
)

// standard is a text by the letters of the standard alphabet.
func standard(s string) string { return base64.StdEncoding.EncodeToString([]byte(s)) }

// withOdd has clients besides whose secrets have signs that do not stand as they are.
func withOdd(t *testing.T) *both {
	t.Helper()
	b := stands(t, home(t), config())
	for name, password := range oddPasswords() {
		b.do("Register", func(x *table.Table) api.Errno { return client.Register(x, someClient(name), password, 10) })
	}
	return b
}

func oddPasswords() map[string]string {
	return map[string]string{
		"a-b_c.9": ":::::::::::::::::",
		"odd":     `a:b&c=d%e+f"g\h!~?>`,
		"long":    many(64, "~"),
	}
}

// E2, step 6: who asks by the header.
func TestHeader(t *testing.T) {
	b := withOdd(t)
	ask := func(value string) api.Message { return with(post("/introspect", "token", "x"), "Authorization", value) }
	right := []string{
		basic("app", word(1)), basic("web", word(2)), basic("tv", ""), "Basic " + standard("app:"+word(1)), "Basic " + standard("a%70p:"+word(1)), "Basic " + standard("%61%70%70:%77ord"+word(1)[4:]), "Basic " + standard("tv:"),
		"Basic " + standard("a-b_c.9:"+many(17, ":")), "Basic " + standard("a-b_c.9:%3A%3a"+many(15, ":")), "Basic " + standard("odd:a:b%26c%3Dd%25e%2Bf\"g\\h!~?>"), "Basic " + standard("long:"+many(64, "~")), "Basic " + standard("long:"+many(64, "%7e")),
	}
	for name, password := range oddPasswords() {
		right = append(right, basic(name, password))
	}
	for _, value := range right {
		b.same(worthless, ask(value), 20, "")
		m := ask(value)
		m.Headers[1].Name = "aUTHORIZATION"
		b.same(worthless, m, 20, "")
	}
	pair := "app:" + word(1)
	for _, value := range []string{
		"", " ", "Basic", "Basic ", "basic " + standard(pair), "BASIC " + standard(pair), "Basic" + standard(pair), "Basic  " + standard(pair), " Basic " + standard(pair), "Basic " + standard(pair) + " ", "Basic\t" + standard(pair),
		"Bearer " + standard(pair), standard(pair), "Basic " + pair, "Basic " + standard(pair) + "=", "Basic " + standard(pair) + "\n", "Basic " + standard(pair)[1:], "Basic " + standard(pair) + "!", "Basic " + standard(pair) + "," + standard(pair),
		"Basic " + standard("app"), "Basic " + standard("tv"), "Basic " + standard(""), "Basic " + standard(":"), "Basic " + standard("app"+word(1)), "Basic " + standard(":"+word(1)), "Basic " + standard("app:"), "Basic " + standard("app:"+word(1)+":"),
		"Basic " + standard("app::"+word(1)), "Basic " + standard("app%3A"+word(1)), "Basic " + standard("app%:"+word(1)), "Basic " + standard("%a:"+word(1)), "Basic " + standard("a p:"+word(1)), "Basic " + standard("app:"+word(1)+"%"), "Basic " + standard("app:"+word(1)+"%4"),
		"Basic " + standard("app: "+word(1)), "Basic " + standard("app:"+word(1)+" "), "Basic " + standard("app:"+word(1)+"+"), "Basic " + standard("app&:"+word(1)), "Basic " + standard("app=:"+word(1)), "Basic " + standard("app:"+word(1)+"&"), "Basic " + standard("app:"+word(1)+"="),
		"Basic " + standard("app:"+word(1)+"\x00"), "Basic " + standard("\x00app:"+word(1)), "Basic " + standard("app:"+word(1)+"\xff"), "Basic " + standard("APP:"+word(1)), "Basic " + standard("+app:"+word(1)),
		"Basic " + standard("odd:"+oddPasswords()["odd"]), "Basic " + standard("tv:x"), "Basic " + standard("tv::"), "Basic " + base64.RawStdEncoding.EncodeToString([]byte("a-b_c.9:"+many(17, ":")+"%")),
		basic("app", word(2)), basic("web", word(1)), basic("app", ""), basic("app", word(1)[1:]), basic("app", word(1)+"x"), basic("app", digestOf(word(1))), basic("none", word(1)), basic("", word(1)), basic("", ""), basic("App", word(1)), basic("app ", word(1)),
		basic("off", word(3)), basic("off", word(1)), basic("off", ""), basic("tv", "x"), basic("tv", word(1)), basic(many(17, "a"), word(1)), basic(many(100000, "a"), many(100000, "b")), "Basic " + many(100000, "A"), many(100000, "Basic "),
	} {
		for _, path := range allPaths {
			m := ask(value)
			m.Path = path
			b.same(nobody, m, 20, "")
		}
	}
}

// E2, step 6: the letters are those of the standard alphabet, with what fills them up.
func TestHeaderAlphabet(t *testing.T) {
	b := stands(t, home(t), config())
	// The signs 62 and 63 are unlike in the two alphabets, so are the ends of one and of two bytes.
	for n, password := range []string{"password-of-16->", "password-of-17-?>", "password-of-18-~~~", "?>?>?>?>?>?>?>?>", "~~~~~~~~~~~~~~~~~", "password-of-20->?>?~"} {
		b.do("Renew", func(x *table.Table) api.Errno { return client.Renew(x, "app", password, 0, 11+n) })
		pair := []byte("app:" + password)
		ask := func(letters string) api.Message {
			return with(post("/introspect", "token", "x"), "Authorization", "Basic "+letters)
		}
		b.same(worthless, ask(standard(string(pair))), 20, "")
		for _, letters := range []string{base64.URLEncoding.EncodeToString(pair), base64.RawStdEncoding.EncodeToString(pair), base64.RawURLEncoding.EncodeToString(pair)} {
			want := nobody
			if letters == standard(string(pair)) {
				want = worthless
			}
			b.same(want, ask(letters), 20, "")
		}
		b.same(nobody, ask(standard(string(pair))+"===="), 20, "")
	}
}

// E2, step 6: what stands behind the last sign that says something must be noughts.
func TestHeaderBits(t *testing.T) {
	b := stands(t, home(t), config())
	letters := standard("web:" + word(2)) // 20 bytes: two of them are left
	if letters[len(letters)-1] != '=' || letters[len(letters)-2] == '=' {
		t.Fatalf("the test is wrong: %s", letters)
	}
	at := len(letters) - 2
	for c := byte(33); c < 127; c++ {
		want := nobody
		if c == letters[at] {
			want = worthless
		}
		m := with(post("/introspect", "token", "x"), "Authorization", "Basic "+letters[:at]+string(c)+letters[at+1:])
		b.same(want, m, 20, "")
	}
}

// E2, step 6: who asks by the form.
func TestByForm(t *testing.T) {
	b := withOdd(t)
	for _, path := range allPaths {
		right := map[string]api.Answer{"/token": badGrant, "/revoke": done, "/introspect": worthless}[path]
		ask := func(want api.Answer, fields ...string) {
			t.Helper()
			b.same(want, post(path, append(fields, "token", "x", "grant_type", "refresh_token", "refresh_token", "x")...), 20, secret(9))
		}
		ask(right, "client_id", "app", "client_secret", word(1))
		ask(right, "client_secret", word(2), "client_id", "web")
		ask(right, "client_id", "tv")
		ask(right, "client_id", "tv", "client_secret", "")
		for name, password := range oddPasswords() {
			ask(right, "client_id", name, "client_secret", password)
			ask(nobody, "client_id", name, "client_secret", escaped(password)+"%")
		}
		for _, wrong := range [][]string{
			{}, {"client_secret", word(1)}, {"client_secret", ""}, {"client_id", ""}, {"client_id", "", "client_secret", ""}, {"client_id", "", "client_secret", word(1)}, {"client_id", "app"}, {"client_id", "app", "client_secret", ""},
			{"client_id", "app", "client_secret", word(2)}, {"client_id", "web", "client_secret", word(1)}, {"client_id", "app", "client_secret", word(1) + " "}, {"client_id", "tv", "client_secret", "x"}, {"client_id", "off", "client_secret", word(3)},
			{"client_id", "off"}, {"client_id", "none"}, {"client_id", "none", "client_secret", word(1)}, {"client_id", "APP", "client_secret", word(1)}, {"client_id", " app", "client_secret", word(1)}, {"client_id", "app\x00", "client_secret", word(1)},
			{"Client_id", "app", "client_secret", word(1)}, {"client_id", "app", "Client_secret", word(1)}, {"client_id", "app:" + word(1)}, {"client_id", many(100000, "a")}, {"client_id", "app", "client_secret", many(100000, "a")},
		} {
			ask(nobody, wrong...)
		}
	}
}

// E2, step 6: the secret ahead of the present one counts up to its time.
func TestOldSecret(t *testing.T) {
	b := stands(t, home(t), config())
	b.do("Renew", func(x *table.Table) api.Errno { return client.Renew(x, "app", word(7), 30, 100) })
	old, fresh := with(post("/introspect", "token", "x"), "Authorization", basic("app", word(1))), post("/introspect", "token", "x", "client_id", "app", "client_secret", word(7))
	for _, now := range []int{least, 0, 100, 101, 129} {
		b.same(worthless, old, now, "")
		b.same(worthless, fresh, now, "")
	}
	b.same(nobody, old, 130, "")
	b.same(nobody, old, 0, "") // the time does not go back
	b.same(worthless, fresh, most, "")
	b.same(nobody, old, 0, "")
	b.do("Renew", func(x *table.Table) api.Errno { return client.Renew(x, "app", word(8), 30, most) })
	b.same(nobody, fresh, most, "") // a time that is the last one is at its Until
	b.same(worthless, with(post("/introspect", "token", "x"), "Authorization", basic("app", word(8))), most, "")
}

// E2, step 6: who is switched off is nobody, and somebody again behind that.
func TestSwitched(t *testing.T) {
	b := stands(t, home(t), config())
	turn := func(name string, off bool) {
		b.do("Switch", func(x *table.Table) api.Errno { return client.Switch(x, name, off, 20) })
	}
	b.same(worthless, asking("app", "x"), 20, "")
	turn("app", true)
	turn("tv", true)
	turn("off", false)
	b.same(nobody, asking("app", "x"), 20, "")
	b.same(nobody, post("/introspect", "token", "x", "client_id", "tv"), 20, "")
	b.same(worthless, asking("off", "x"), 20, "")
	turn("app", false)
	b.same(worthless, asking("app", "x"), 20, "")
}

// E2, step 6: a dead disk is told behind what can be seen without it, and ahead of what hangs on it; so is a table in doubt.
func TestDeadDisk(t *testing.T) {
	b := stands(t, home(t), config())
	text := b.issue("app", "ann", nil, 20, 1).Token
	check := func() {
		t.Helper()
		for _, m := range []api.Message{
			asking("app", text), asking("app", "x"), revoking("app", text), refreshing("app", text), redeeming("app", "x", "y"), by("app", post("/token")), by("app", post("/revoke")), by("app", post("/introspect")), by("app", post("/token", "grant_type", "x")),
			with(post("/token"), "Authorization", basic("app", "x")), with(post("/token"), "Authorization", basic("none", "x")), with(post("/token"), "Authorization", basic("", "")), with(post("/token"), "Authorization", basic("App", "")), asking("off", "x"),
			post("/token", "client_id", "none"), post("/token", "client_id", ""), post("/token", "client_id", "tv"), post("/revoke", "client_id", "tv", "client_secret", "x"),
		} {
			b.same(later, m, 30, secret(2))
		}
		b.same(nobody, post("/token"), 30, "")
		b.same(nobody, post("/token", "client_secret", word(1)), 30, "")
		b.same(nobody, with(post("/token"), "Authorization", "Basic x"), 30, "")
		b.same(nobody, with(post("/token"), "Authorization", "Basic "+standard("app")), 30, "")
		b.same(nobody, with(post("/token"), "Authorization", "Basic "+standard("app:%")), 30, "")
		b.same(nobody, with(post("/token"), "Authorization", "Basic "+standard("%:"+word(1))), 30, "")
		b.same(badRequest, by("app", post("/token", "client_id", "app")), 30, "")
		b.same(badRequest, by("app", post("/token", "a", "1", "a", "2")), 30, "")
		b.same(notThat, api.Message{Method: "POST", Path: "/token"}, 30, "")
		b.same(notSo, api.Message{Method: "GET", Path: "/token"}, 30, "")
		b.same(notThere, post("/"), 30, "")
	}
	kill(t, b.d)
	kill(t, b.d2)
	check()
	wantErrno(t, "Crash", b.d.Crash(nil), api.OK)
	wantErrno(t, "Crash", b.d2.Crash(nil), api.OK)
	check() // in doubt until it is opened anew
	b.open()
	b.gives(refreshing("app", text), 30, secret(2))
}

// E2, step 6: a death is told also while there is no leave: it comes ahead of step 7.
func TestDeadAndHasty(t *testing.T) {
	c := config()
	c.Rate, c.Burst = 0, 1
	b := stands(t, home(t), c)
	b.same(worthless, asking("app", "x"), 20, "")
	b.same(hasty("1099511627776"), asking("app", "x"), 20, "")
	kill(t, b.d)
	kill(t, b.d2)
	b.same(later, asking("app", "x"), 20, "")
	b.same(nobody, post("/introspect"), 20, "")
}
