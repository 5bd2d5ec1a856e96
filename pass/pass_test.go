package pass_test

import (
	"bytes"
	"encoding/hex"
	"errors"
	"math"
	"math/rand"
	"strings"
	"testing"

	"bulla/api"
	"bulla/cert"
	"bulla/keys"
	"bulla/mac"
	"bulla/pass"
	"bulla/request"
)

const (
	draw0 = "0123456789abcdef"
	draw1 = "a draw of rather many bytes"
	id0   = "37e1c3aad0dae26e458269bd41e4799f" // of draw0's key
	id1   = "953ced55e276463d84fb19571ae131fd" // of draw1's key
)

// drawOf is the draw of a key's number.
func drawOf(id string) string {
	return map[string]string{id0: draw0, id1: draw1}[id]
}

// bin is the bytes of figures with blanks between.
func bin(t testing.TB, figures string) []byte {
	t.Helper()
	b, err := hex.DecodeString(strings.ReplaceAll(figures, " ", ""))
	if err != nil {
		t.Fatal(err)
	}
	return b
}

// made is the key of a draw.
func made(t testing.TB, draw string) []byte {
	t.Helper()
	key, err := keys.Make([]byte(draw))
	if err != nil {
		t.Fatal(err)
	}
	return key
}

// ringOf is a ring with the keys of draws.
func ringOf(t testing.TB, draws ...string) *keys.Ring {
	t.Helper()
	g := keys.New()
	for _, draw := range draws {
		if _, err := g.Add(made(t, draw)); err != nil {
			t.Fatal(err)
		}
	}
	return g
}

// by is the signature of a draw's key, of which no ring knows.
func by(t testing.TB, draw, domain string, message []byte) []byte {
	t.Helper()
	s, err := mac.Tagged(made(t, draw), domain, message)
	if err != nil {
		t.Fatal(err)
	}
	return s[:]
}

// signed is what a ring has signed.
func signed(t testing.TB, g *keys.Ring, id, domain string, message []byte) []byte {
	t.Helper()
	s, err := g.Sign(id, domain, message)
	if err != nil {
		t.Fatal(err)
	}
	return s
}

// tokenOf is a token that a ring has signed.
func tokenOf(t testing.TB, g *keys.Ring, p api.Pass) []byte {
	t.Helper()
	b, err := pass.Sign(g, p)
	if err != nil {
		t.Fatal(err)
	}
	return b
}

// web is what a right token says: draw0's key has issued it, and draw1's is its bound key.
func web() api.Pass {
	return api.Pass{Serial: 17, Issuer: id0, Gen: 2, Account: api.Subject{Kind: api.Workload, Space: "shop", Name: "web"}, Audience: "plane", Bound: id1, Expiry: 951868800}
}

// example is what a token says, its body, its issuer's signature, and the one of its bound key at a moment.
type example struct {
	pass            api.Pass
	body, signature string
	now             int
	shown           string
}

// examples is tokens that were reckoned apart.
func examples() []example {
	return []example{
		{
			api.Pass{Serial: 1, Issuer: id0, Gen: 1, Account: api.Subject{Kind: api.Workload, Space: "s", Name: "n"}, Audience: "a", Bound: id0},
			"306b 020101 041037e1c3aad0dae26e458269bd41e4799f 020101 302b301106052bce0f01010c08776f726b6c6f6164300a06052bce0f01020c0173300a06052bce0f01030c016e 0c0161 041037e1c3aad0dae26e458269bd41e4799f 180f31393730303130313030303030305a",
			"daecf6f7dfeb024576c469e19aef5a44de96db522c1305730e31fc526079a6cf",
			0,
			"6d7eaa2bb400cd76cb7297fb1d4803a30b373f2c85e867eb55b702b03d91f020",
		},
		{
			web(),
			"3074 020111 041037e1c3aad0dae26e458269bd41e4799f 020102 3030301106052bce0f01010c08776f726b6c6f6164300d06052bce0f01020c0473686f70300c06052bce0f01030c03776562 0c05706c616e65 0410953ced55e276463d84fb19571ae131fd 180f32303030303330313030303030305a",
			"f148f638bb87fbfa5beb82808c9de2d2cb240efbdf156684a7a1c33e5a13b1d4",
			951782400,
			"b187d485451e5b2626a1d418983ac54c4235b23b4cef84ad1fbd04881383a918",
		},
		{
			api.Pass{Serial: 1 << 40, Issuer: id1, Gen: 1 << 20, Account: api.Subject{Kind: api.Workload, Space: strings.Repeat("x", 24), Name: strings.Repeat("y", 24)}, Audience: strings.Repeat("z", 24), Bound: id0, Expiry: 253402300799},
			"3081b7 0206010000000000 0410953ced55e276463d84fb19571ae131fd 0203100000 3059301106052bce0f01010c08776f726b6c6f6164302106052bce0f01020c18787878787878787878787878787878787878787878787878 302106052bce0f01030c18797979797979797979797979797979797979797979797979" +
				"0c187a7a7a7a7a7a7a7a7a7a7a7a7a7a7a7a7a7a7a7a7a7a7a7a 041037e1c3aad0dae26e458269bd41e4799f 180f39393939313233313233353935395a",
			"980dabcb43faa688d188574cc167742444ff32fa69d054c2b504769b22ba75f3",
			253402300799,
			"df08d954da6eaab29251fd348b4d598858e382bc51dadb0006b59d2a73a9c845",
		},
	}
}

// P14.1, P14.2: tokens that are written out, through all calls.
func TestExamples(t *testing.T) {
	g := ringOf(t, draw0, draw1)
	for i, e := range examples() {
		body, signature := bin(t, e.body), bin(t, e.signature)
		token := joinByHand(body, signature)
		shown := joinByHand(token, bin(t, e.shown))
		if got, err := pass.Body(e.pass); !pass.Right(e.pass) || err != nil || !bytes.Equal(got, body) {
			t.Errorf("%d: its body is %x, %v, wanted %x", i, got, err, body)
		}
		if got, err := pass.Read(body); err != nil || !equal(got, e.pass) || !pass.Same(got, e.pass) {
			t.Errorf("%d: its body says %+v, %v", i, got, err)
		}
		if got, err := pass.Check(g, token); !errors.Is(err, api.ErrSign) || !zero(got) {
			t.Errorf("%d: not signed as yet: %+v, %v", i, got, err)
		}
		if got, err := pass.Shown(g, shown, e.now, e.pass.Audience); !errors.Is(err, api.ErrSign) || !zero(got) {
			t.Errorf("%d: not signed as yet, but shown: %+v, %v", i, got, err)
		}
		if got, err := pass.Sign(g, e.pass); err != nil || !bytes.Equal(got, token) || g.Signed() != 2*i+1 {
			t.Errorf("%d: signed, %x, %v, wanted %x; %d are signed", i, got, err, token, g.Signed())
		}
		if got, err := pass.Check(g, token); err != nil || !equal(got, e.pass) {
			t.Errorf("%d: it says %+v, %v", i, got, err)
		}
		if got, err := pass.Shown(g, shown, e.now, e.pass.Audience); !errors.Is(err, api.ErrProof) || !zero(got) {
			t.Errorf("%d: not shown as yet: %+v, %v", i, got, err)
		}
		if got, err := pass.Show(g, token, e.now); err != nil || !bytes.Equal(got, shown) || g.Signed() != 2*i+2 {
			t.Errorf("%d: shown, %x, %v, wanted %x; %d are signed", i, got, err, shown, g.Signed())
		}
		if got, err := pass.Shown(g, shown, e.now, e.pass.Audience); err != nil || !equal(got, e.pass) {
			t.Errorf("%d: shown, it says %+v, %v", i, got, err)
		}
	}
}

// change is what is made of a token, and whether it is right then.
type change struct {
	what  string
	do    func(p *api.Pass)
	right bool
}

// numberChanges is changes of each number: about its bounds, and far from them.
func numberChanges() []change {
	var list []change
	serial := func(n int, right bool) {
		list = append(list, change{"a serial number", func(p *api.Pass) { p.Serial = n }, right})
	}
	gen := func(n int, right bool) {
		list = append(list, change{"a generation", func(p *api.Pass) { p.Gen = n }, right})
	}
	expiry := func(n int, right bool) {
		list = append(list, change{"an expiry", func(p *api.Pass) { p.Expiry = n }, right})
	}
	for _, n := range []int{math.MinInt, -1 << 40, -256, -1, math.MaxInt, math.MaxInt - 1, 1 << 62} {
		serial(n, false)
		gen(n, false)
		expiry(n, false)
	}
	serial(0, false)
	gen(0, false)
	expiry(0, true)
	for n := -2; n <= 2; n++ {
		serial(1<<40+n, n <= 0)
		gen(1<<20+n, n <= 0)
		expiry(253402300799+n, n <= 0)
	}
	for _, n := range numbers(mostSerial) {
		serial(n, true)
		gen(n, n <= mostGen)
		expiry(n, n <= lastMoment)
	}
	for _, n := range times() {
		expiry(n, true)
	}
	return list
}

// noIDs is texts that are no keys' numbers.
func noIDs() []string {
	return []string{"", "0", id0[:31], id0 + "0", id0 + id1, strings.ToUpper(id0), id0[:31] + "g", " " + id0[1:], id0[:31] + "\x00", "/" + id0[1:], ":" + id0[1:], "`" + id0[1:], "\u0660" + id0[2:], strings.Repeat("\xff", 16)}
}

// noLabels is texts that are no labels.
func noLabels() []string {
	return []string{"", "-", "-a", "a-", "A", "a b", "a.b", "a_b", "a/b", "a\x00", "\n", "\x7f", "\u00e9", "\xff", "a\u00e9", strings.Repeat("x", 25), strings.Repeat("x", 64), strings.Repeat("x", 65), strings.Repeat("x", 100000)}
}

// textChanges is changes of each text.
func textChanges() []change {
	var list []change
	add := func(what string, at func(p *api.Pass) *string, right, wrong []string) {
		for _, s := range right {
			list = append(list, change{what, func(p *api.Pass) { *at(p) = s }, true})
		}
		for _, s := range wrong {
			list = append(list, change{"no " + what, func(p *api.Pass) { *at(p) = s }, false})
		}
	}
	add("issuer", func(p *api.Pass) *string { return &p.Issuer }, ids(), noIDs())
	add("bound key", func(p *api.Pass) *string { return &p.Bound }, ids(), noIDs())
	add("namespace", func(p *api.Pass) *string { return &p.Account.Space }, labels(), noLabels())
	add("name", func(p *api.Pass) *string { return &p.Account.Name }, labels(), noLabels())
	add("audience", func(p *api.Pass) *string { return &p.Audience }, labels(), noLabels())
	return list
}

// kindChanges is changes of whom a token is of: but a workload's is right.
func kindChanges() []change {
	var list []change
	for kind := -1; kind <= 8; kind++ {
		list = append(list,
			change{"a kind in a namespace", func(p *api.Pass) { p.Account.Kind = kind }, kind == 2},
			change{"a kind without one", func(p *api.Pass) { p.Account = api.Subject{Kind: kind, Name: "n"} }, false},
		)
	}
	return append(list, change{"nobody", func(p *api.Pass) { p.Account = api.Subject{} }, false})
}

// changes is all changes.
func changes() []change {
	return append(append(numberChanges(), textChanges()...), kindChanges()...)
}

// P14.1: one thing of a token is another one: what is right then, and what isn't.
func TestRightOfChanges(t *testing.T) {
	for _, change := range changes() {
		p := web()
		change.do(&p)
		if got := pass.Right(p); got != change.right {
			t.Errorf("%s: %.300v is right: %v", change.what, p, got)
		}
		holdPass(t, p)
	}
	if pass.Right(api.Pass{}) {
		t.Error("what says nothing is right")
	}
	turned := web()
	turned.Bound = turned.Issuer // as a wish's: layer 32 tells what that means
	if !pass.Right(turned) {
		t.Error("one that is bound to its issuer's key isn't right")
	}
}

// P14.1: two things of a token are others: one that isn't right makes all wrong, whatever the other one is.
func TestRightOfTwoChanges(t *testing.T) {
	r := rand.New(rand.NewSource(141))
	list := changes()
	for range 40000 {
		p := web()
		pick(r, list...).do(&p)
		pick(r, list...).do(&p)
		holdPass(t, p)
	}
}

// P14.1: right tokens by chance; of somebody else than a workload none of them is.
func TestRightByChance(t *testing.T) {
	for i, p := range someRight(rand.New(rand.NewSource(142)), 20000) {
		if !pass.Right(p) {
			t.Fatalf("%+v isn't right", p)
		}
		holdPass(t, p)
		p.Account = api.Subject{Kind: []int{api.Node, api.Operator, api.Boot, api.CA}[i%4], Name: p.Account.Name}
		if pass.Right(p) {
			t.Fatalf("%+v is right", p)
		}
		holdPass(t, p)
	}
}

// P14.1: each field counts, alone, also of tokens that aren't right.
func TestSame(t *testing.T) {
	fields := []func(p *api.Pass){
		func(p *api.Pass) { p.Serial++ },
		func(p *api.Pass) { p.Serial = math.MinInt },
		func(p *api.Pass) { p.Issuer = strings.ToUpper(p.Issuer) },
		func(p *api.Pass) { p.Issuer = id1 },
		func(p *api.Pass) { p.Gen = 0 },
		func(p *api.Pass) { p.Gen++ },
		func(p *api.Pass) { p.Account.Kind = api.CA },
		func(p *api.Pass) { p.Account.Space = "" },
		func(p *api.Pass) { p.Account.Name += "x" },
		func(p *api.Pass) { p.Audience = "" },
		func(p *api.Pass) { p.Audience = "Plane" },
		func(p *api.Pass) { p.Bound = id0 },
		func(p *api.Pass) { p.Bound = p.Bound[:31] },
		func(p *api.Pass) { p.Expiry++ },
		func(p *api.Pass) { p.Expiry = math.MaxInt },
	}
	for i, one := range fields {
		a := web()
		one(&a)
		if pass.Same(a, web()) || pass.Same(web(), a) || !pass.Same(a, a) {
			t.Errorf("%d: %v %v %v", i, pass.Same(a, web()), pass.Same(web(), a), pass.Same(a, a))
		}
		for j, other := range fields {
			b := web()
			other(&b)
			if got := pass.Same(a, b); got != (i == j) {
				t.Errorf("%d and %d: %v", i, j, got)
			}
		}
	}
	a := web()
	a.Audience = strings.Clone(a.Audience)
	if !pass.Same(a, web()) || !pass.Same(api.Pass{}, api.Pass{}) || pass.Same(web(), api.Pass{}) {
		t.Error("what says the same isn't the same")
	}
}

// P14.1: Sign's errors: those of what is said first, then those of the ring; with an error nothing is signed.
func TestSignErrors(t *testing.T) {
	wrong := web()
	wrong.Gen = 0
	var none keys.Ring
	for _, c := range []struct {
		what string
		g    *keys.Ring
		p    api.Pass
		err  error
	}{
		{"a ring with but the bound key", ringOf(t, draw1), web(), api.ErrKey},
		{"no keys", keys.New(), web(), api.ErrKey},
		{"a ring that New hasn't made", &none, web(), api.ErrKey},
		{"no ring", nil, web(), api.ErrKey},
		{"not right", ringOf(t, draw0), wrong, api.ErrForm},
		{"not right, and a key that it hasn't", ringOf(t, draw1), wrong, api.ErrForm},
		{"not right, and no ring", nil, wrong, api.ErrForm},
		{"nothing said", ringOf(t, draw0), api.Pass{}, api.ErrForm},
	} {
		if got, err := pass.Sign(c.g, c.p); !errors.Is(err, c.err) || got != nil {
			t.Errorf("%s: %x, %v, wanted %v", c.what, got, err, c.err)
		}
		if c.g != nil && c.g.Signed() != 0 {
			t.Errorf("%s: %d are signed", c.what, c.g.Signed())
		}
	}
	for _, change := range changes() {
		p := web()
		change.do(&p)
		g := ringOf(t, draw0)
		got, err := pass.Sign(g, p)
		switch {
		case !change.right:
			if !errors.Is(err, api.ErrForm) || got != nil || g.Signed() != 0 {
				t.Errorf("%s: %x, %v; %d are signed", change.what, got, err, g.Signed())
			}
		case p.Issuer != id0:
			if !errors.Is(err, api.ErrKey) || got != nil || g.Signed() != 0 {
				t.Errorf("%s: %x, %v; %d are signed", change.what, got, err, g.Signed())
			}
		case err != nil || g.Signed() != 1:
			t.Errorf("%s: %v; %d are signed", change.what, err, g.Signed())
		}
	}
}

// P14.1: what is signed is checked as what it says, by its ring and by copies; the signature is the issuer's, of the body, whether or not the ring has the bound key.
func TestSignedIsChecked(t *testing.T) {
	g := ringOf(t, draw0, draw1)
	r := rand.New(rand.NewSource(143))
	seen := map[string]bool{}
	for _, p := range someRight(r, 3000) {
		p.Issuer = pick(r, id0, id1)
		body := bodyByHand(p)
		b, err := pass.Sign(g, p)
		if want := joinByHand(body, by(t, drawOf(p.Issuer), "pass", body)); err != nil || !bytes.Equal(b, want) {
			t.Fatalf("%+v: %x, %v, wanted %x", p, b, err, want)
		}
		for _, ring := range []*keys.Ring{g, g.Copy()} {
			if got, err := pass.Check(ring, b); err != nil || !equal(got, p) || !pass.Same(got, p) {
				t.Fatalf("%+v: it says %+v, %v", p, got, err)
			}
		}
		holdToken(t, g, b, pick(r, times()...))
		seen[string(body)] = true
		if again, err := pass.Sign(g, p); err != nil || !bytes.Equal(again, b) || g.Signed() != len(seen) {
			t.Fatalf("%+v: signed again, %x, %v; %d are signed, wanted %d", p, again, err, g.Signed(), len(seen))
		}
	}
}

// P14.1: Check's errors: Split's first, then those of the body, then those of the signature.
func TestCheckErrors(t *testing.T) {
	g := ringOf(t, draw0, draw1)
	token := tokenOf(t, g, web())
	body, noughts := bodyByHand(web()), make([]byte, 32)
	sealed := func(body []byte) []byte { return joinByHand(body, signed(t, g, id0, "pass", body)) }
	wrong := with(map[int][]byte{atAudience: textByHand("Plane")})
	node := with(map[int][]byte{atAccount: subjectByHand(api.Subject{Kind: api.Node, Name: "n1"})})
	var none keys.Ring
	for _, c := range []struct {
		what string
		g    *keys.Ring
		b    []byte
		err  error
	}{
		{"signed", g, token, nil},
		{"no bytes", g, nil, api.ErrShort},
		{"no bytes, and no ring", nil, nil, api.ErrShort},
		{"a body alone", g, body, api.ErrShort}, // its issuer's number in the place of a signature
		{"a signature that lacks a byte", nil, joinByHand(body, noughts[:31]), api.ErrShort},
		{"a signature that has one more", nil, joinByHand(body, make([]byte, 33)), api.ErrLong},
		{"a signature that lacks a byte, and a body that isn't right", nil, joinByHand([]byte{2, 1, 5}, noughts[:31]), api.ErrShort},
		{"something behind the signature", g, byHand(0x30, body, byHand(4, token[len(token)-32:]), []byte{5, 0}), api.ErrForm},
		{"something behind it", g, append(bytes.Clone(token), 5, 0), api.ErrForm},
		{"a body that isn't right, but signed", g, sealed(wrong), api.ErrForm},
		{"a node's, but signed", g, sealed(node), api.ErrForm},
		{"a body that isn't right, and no ring", nil, joinByHand(wrong, noughts), api.ErrForm},
		{"a body that says nothing, but signed", g, sealed([]byte{0x30, 0}), api.ErrShort},
		{"a body that is no list, but signed", g, sealed([]byte{2, 1, 5}), api.ErrTag},
		{"a ring with but the bound key", ringOf(t, draw1), token, api.ErrKey},
		{"a ring with but the bound key, and a signature of noughts", ringOf(t, draw1), joinByHand(body, noughts), api.ErrKey},
		{"a ring without keys", keys.New(), token, api.ErrKey},
		{"a ring that New hasn't made", &none, token, api.ErrKey},
		{"no ring", nil, token, api.ErrKey},
		{"a ring that has the key, and has signed nothing", ringOf(t, draw0), token, api.ErrSign},
		{"a signature of noughts", g, joinByHand(body, noughts), api.ErrSign},
	} {
		got, err := pass.Check(c.g, c.b)
		if !same(err, c.err) || err != nil && !zero(got) || err == nil && !equal(got, web()) {
			t.Errorf("%s: %+v, %v, wanted %v", c.what, got, err, c.err)
		}
	}
}

// P14.2: what Check takes was signed: by that ring, with the domain of tokens, by the issuer, as that body.
func TestOnlyWhatWasSigned(t *testing.T) {
	g := ringOf(t, draw0, draw1)
	body := bodyByHand(web())
	for _, domain := range []string{"cert", "request", "show", "passes", "pas", "p", "id", "key"} {
		if got, err := pass.Check(g, joinByHand(body, signed(t, g, id0, domain, body))); !errors.Is(err, api.ErrSign) || !zero(got) {
			t.Errorf("signed with the domain %s: %+v, %v", domain, got, err)
		}
	}
	for what, s := range map[string][]byte{
		"reckoned":                        by(t, draw0, "pass", body),
		"signed by the bound key":         signed(t, g, id1, "pass", body),
		"of the body's own signature":     signed(t, g, id0, "pass", by(t, draw0, "pass", body)),
		"of the body in another one":      signed(t, g, id0, "pass", byHand(0x30, body)),
		"of what the body is made of":     signed(t, g, id0, "pass", body[2:]),
		"of the body and a moment's body": signed(t, g, id0, "pass", append(bytes.Clone(body), bodyOfMoment(5)...)),
	} {
		if got, err := pass.Check(g, joinByHand(body, s)); !errors.Is(err, api.ErrSign) || !zero(got) {
			t.Errorf("%s: %+v, %v", what, got, err)
		}
	}
	other := g.Copy()
	token := joinByHand(body, signed(t, other, id0, "pass", body)) // whoever signs a body has made a token
	if got, err := pass.Check(other, token); err != nil || !equal(got, web()) {
		t.Errorf("signed by a copy: %+v, %v", got, err)
	}
	if got, err := pass.Check(g, token); !errors.Is(err, api.ErrSign) || !zero(got) {
		t.Errorf("signed by a copy alone: %+v, %v", got, err)
	}
}

// P14.2: a certificate and a request are no tokens, and a token is none of them.
func TestNothingElse(t *testing.T) {
	g := ringOf(t, draw0, draw1)
	p := web()
	c, err := cert.Sign(g, api.Cert{Serial: p.Serial, Issuer: p.Issuer, Gen: p.Gen, Subject: p.Account, NotAfter: p.Expiry, Key: p.Bound, Usages: 1})
	if err != nil {
		t.Fatal(err)
	}
	q, err := request.Sign(g, api.Request{Subject: p.Account, Key: p.Bound, Usages: 1, Duration: 5})
	if err != nil {
		t.Fatal(err)
	}
	token := tokenOf(t, g, p)
	for what, b := range map[string][]byte{"a certificate": c, "a request": q} {
		if got, err := pass.Check(g, b); !errors.Is(err, api.ErrTag) || !zero(got) {
			t.Errorf("%s: %+v, %v", what, got, err)
		}
		if got, err := pass.Show(g, b, 5); !errors.Is(err, api.ErrTag) || got != nil {
			t.Errorf("%s, to be shown: %x, %v", what, got, err)
		}
		shown := joinByHand(b, signed(t, g, id1, "show", append(bytes.Clone(b), bodyOfMoment(5)...)))
		if got, err := pass.Shown(g, shown, 5, "plane"); !errors.Is(err, api.ErrTag) || !zero(got) {
			t.Errorf("%s, shown: %+v, %v", what, got, err)
		}
	}
	if _, err := cert.Check(g, token); !errors.Is(err, api.ErrTag) {
		t.Errorf("a token as a certificate: %v", err)
	}
	if _, err := request.Check(g, token); !errors.Is(err, api.ErrTag) {
		t.Errorf("a token as a request: %v", err)
	}
}

// P14.1, P14.2: each bit of tokens, turned; and each one with the signature of another one.
func TestTurnedBits(t *testing.T) {
	g := ringOf(t, draw0, draw1)
	var list [][]byte
	for _, p := range append(someRight(rand.New(rand.NewSource(144)), 40), web()) {
		p.Issuer = id0
		list = append(list, tokenOf(t, g, p))
	}
	for _, b := range list[36:] {
		for i := range b {
			for bit := range 8 {
				turned := bytes.Clone(b)
				turned[i] ^= 1 << bit
				if got, err := pass.Check(g, turned); err == nil || !zero(got) {
					t.Fatalf("%x, of %x: %+v, %v", turned, b, got, err)
				}
				holdToken(t, g, turned, 5)
			}
		}
	}
	for _, a := range list {
		for _, b := range list {
			body, _, _ := cert.Split(a)
			own, signature, _ := cert.Split(b)
			var want error = api.ErrSign
			if bytes.Equal(body, own) {
				want = nil
			}
			if _, err := pass.Check(g, joinByHand(body, signature)); !same(err, want) {
				t.Fatalf("%x with the signature of %x: %v, wanted %v", body, own, err, want)
			}
		}
	}
}

// FuzzSign looks for what a token says of which the chapter tells something else.
func FuzzSign(f *testing.F) {
	f.Add(17, id0, 2, 2, "shop", "web", "plane", id1, 951868800)
	f.Add(1<<40, id0, 1<<20, 2, "s", "n", "a", id0, 0)
	f.Add(0, "", 0, 5, "", "root", "-", id0, 253402300799)
	f.Fuzz(func(t *testing.T, serial int, issuer string, gen, kind int, space, name, audience, bound string, expiry int) {
		p := api.Pass{Serial: serial, Issuer: issuer, Gen: gen, Account: api.Subject{Kind: kind, Space: space, Name: name}, Audience: audience, Bound: bound, Expiry: expiry}
		holdPass(t, p)
		g := ringOf(t, draw0, draw1)
		b, err := pass.Sign(g, p)
		if (err == nil) != (wantRight(p) && g.Has(issuer)) {
			t.Fatalf("%+v: %x, %v", p, b, err)
		}
		holdToken(t, g, b, expiry)
	})
}
