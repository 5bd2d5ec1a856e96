package cert_test

import (
	"bytes"
	"encoding/hex"
	"errors"
	"math"
	"math/rand"
	"slices"
	"strings"
	"testing"

	"bulla/api"
	"bulla/cert"
	"bulla/keys"
	"bulla/mac"
)

const (
	draw0 = "0123456789abcdef"
	draw1 = "a draw of rather many bytes"
	id0   = "37e1c3aad0dae26e458269bd41e4799f" // of draw0's key
	id1   = "953ced55e276463d84fb19571ae131fd" // of draw1's key
)

// bin is the bytes of figures with blanks between.
func bin(t testing.TB, figures string) []byte {
	t.Helper()
	b, err := hex.DecodeString(strings.ReplaceAll(figures, " ", ""))
	if err != nil {
		t.Fatal(err)
	}
	return b
}

// made is the key of a draw.
func made(t testing.TB, draw string) []byte {
	t.Helper()
	key, err := keys.Make([]byte(draw))
	if err != nil {
		t.Fatal(err)
	}
	return key
}

// ringOf is a ring with the keys of draws.
func ringOf(t testing.TB, draws ...string) *keys.Ring {
	t.Helper()
	g := keys.New()
	for _, draw := range draws {
		if _, err := g.Add(made(t, draw)); err != nil {
			t.Fatal(err)
		}
	}
	return g
}

// web is what a right certificate says.
func web() api.Cert {
	return api.Cert{Serial: 17, Issuer: id0, Gen: 2, Subject: api.Subject{Kind: api.Workload, Space: "shop", Name: "web"}, NotBefore: 951782400, NotAfter: 951868800, Key: id1, Usages: api.UseServer | api.UseClient, Alts: []string{"web", "web-1"}}
}

// example is what a certificate says, its body, and the signature of draw0's key.
type example struct {
	cert            api.Cert
	body, signature string
}

// examples is certificates that were reckoned apart.
func examples() []example {
	var most []string
	for _, c := range "abcdefgh" {
		most = append(most, strings.Repeat(string(c), 24))
	}
	return []example{
		{
			api.Cert{Serial: 1, Issuer: id0, Gen: 1, Subject: api.Subject{Kind: api.Node, Name: "n1"}, Key: id1, Usages: api.UseServer},
			"3072 020101 041037e1c3aad0dae26e458269bd41e4799f 020101 301c300d06052bce0f01010c046e6f6465300b06052bce0f01030c026e31 3022180f31393730303130313030303030305a180f31393730303130313030303030305a 0410953ced55e276463d84fb19571ae131fd 03020780 3000",
			"2f1767274a9041fea3304e006052ed29bf44afc21d52c2c66cb70d5289b273cb",
		},
		{
			web(),
			"308192 020111 041037e1c3aad0dae26e458269bd41e4799f 020102 3030301106052bce0f01010c08776f726b6c6f6164300d06052bce0f01020c0473686f70300c06052bce0f01030c03776562 3022180f32303030303232393030303030305a180f32303030303330313030303030305a 0410953ced55e276463d84fb19571ae131fd 030206c0 300c0c037765620c057765622d31",
			"7f1182a815b184706af61fc8630bc068bed2f23e5ba1272a8cc0b7d89aa6c1f2",
		},
		{
			api.Cert{Serial: 1 << 40, Issuer: id0, Gen: 1 << 20, Subject: api.Subject{Kind: api.CA, Name: strings.Repeat("x", 24)}, NotBefore: 253402300799, NotAfter: 253402300799, Key: id0, Usages: 15, Alts: most},
			"3082015e 0206010000000000 041037e1c3aad0dae26e458269bd41e4799f 0203100000 3030300b06052bce0f01010c026361302106052bce0f01030c18787878787878787878787878787878787878787878787878 3022180f39393939313233313233353935395a180f39393939313233313233353935395a 041037e1c3aad0dae26e458269bd41e4799f 030204f0 3081d0" +
				"0c18616161616161616161616161616161616161616161616161 0c18626262626262626262626262626262626262626262626262 0c18636363636363636363636363636363636363636363636363 0c18646464646464646464646464646464646464646464646464" +
				"0c18656565656565656565656565656565656565656565656565 0c18666666666666666666666666666666666666666666666666 0c18676767676767676767676767676767676767676767676767 0c18686868686868686868686868686868686868686868686868",
			"12c84f9ef88b1af9c5774dd9730aac5b0a5ebae745b56a1f8e1a65e7472b751c",
		},
	}
}

// P11.1, P11.2: certificates that are written out, through all calls.
func TestExamples(t *testing.T) {
	g := ringOf(t, draw0)
	for i, e := range examples() {
		body, signature := bin(t, e.body), bin(t, e.signature)
		whole := joinByHand(body, signature)
		if got, err := cert.Body(e.cert); !cert.Right(e.cert) || err != nil || !bytes.Equal(got, body) {
			t.Errorf("%d: its body is %x, %v, wanted %x", i, got, err, body)
		}
		if got, err := cert.Read(body); err != nil || !equal(got, e.cert) {
			t.Errorf("%d: its body says %+v, %v", i, got, err)
		}
		if _, err := cert.Check(g, whole); !errors.Is(err, api.ErrSign) {
			t.Errorf("%d: not signed as yet: %v", i, err)
		}
		if got, err := cert.Sign(g, e.cert); err != nil || !bytes.Equal(got, whole) || g.Signed() != i+1 {
			t.Errorf("%d: signed, %x, %v, wanted %x; %d are signed", i, got, err, whole, g.Signed())
		}
		if got, err := cert.Join(body, signature); err != nil || !bytes.Equal(got, whole) {
			t.Errorf("%d: joined, %x, %v, wanted %x", i, got, err, whole)
		}
		if b, s, err := cert.Split(whole); err != nil || !bytes.Equal(b, body) || !bytes.Equal(s, signature) {
			t.Errorf("%d: split, %x, %x, %v", i, b, s, err)
		}
		if got, err := cert.Parse(whole); err != nil || !equal(got, e.cert) {
			t.Errorf("%d: it says %+v, %v", i, got, err)
		}
		if got, err := cert.Check(g, whole); err != nil || !equal(got, e.cert) {
			t.Errorf("%d: signed, it says %+v, %v", i, got, err)
		}
	}
}

// P11.1: the chapter's example.
func TestNotAfterBelowNotBefore(t *testing.T) {
	c := web()
	c.NotAfter = c.NotBefore - 1
	g := ringOf(t, draw0)
	_, bodyErr := cert.Body(c)
	_, signErr := cert.Sign(g, c)
	_, readErr := cert.Read(bodyByHand(c))
	if cert.Right(c) || !errors.Is(bodyErr, api.ErrForm) || !errors.Is(signErr, api.ErrForm) || !errors.Is(readErr, api.ErrForm) || g.Signed() != 0 {
		t.Errorf("%v; %v, %v, %v; %d are signed", cert.Right(c), bodyErr, signErr, readErr, g.Signed())
	}
}

// change is what is made of a certificate, and whether it is right then.
type change struct {
	what  string
	do    func(c *api.Cert)
	right bool
}

// numberChanges is changes of each number: about its bounds, and far from them.
func numberChanges() []change {
	var list []change
	add := func(what string, at func(c *api.Cert) *int, n int, right bool) {
		list = append(list, change{what, func(c *api.Cert) { *at(c) = n }, right})
	}
	serial := func(c *api.Cert) *int { return &c.Serial }
	gen := func(c *api.Cert) *int { return &c.Gen }
	usages := func(c *api.Cert) *int { return &c.Usages }
	notBefore := func(c *api.Cert) *int { return &c.NotBefore }
	notAfter := func(c *api.Cert) *int { return &c.NotAfter }
	for _, n := range []int{math.MinInt, -1 << 40, -256, -1, 0, math.MaxInt} {
		add("a serial number", serial, n, false)
		add("a generation", gen, n, false)
		add("usages", usages, n, false)
		add("an end", notAfter, n, false)
		add("a beginning", notBefore, n, n == 0)
	}
	for n := 1; n < 16; n++ {
		add("a serial number", serial, n, true)
		add("a generation", gen, n, true)
		add("usages", usages, n, true)
	}
	for _, n := range []int{16, 17, 31, 32, 256, 1 << 14, 1<<15 - 1, 1 << 15, 1 << 32, 1<<32 + 1} {
		add("usages", usages, n, false)
	}
	for n := -2; n <= 2; n++ {
		add("a serial number", serial, 1<<40+n, n <= 0)
		add("a generation", gen, 1<<20+n, n <= 0)
		add("an end", notAfter, 253402300799+n, n <= 0)
		add("a beginning beyond the end", notBefore, 253402300799+n, false)
		add("a beginning about the end", notBefore, web().NotAfter+n, n <= 0)
		add("an end about the beginning", notAfter, web().NotBefore+n, n >= 0)
	}
	add("a beginning", notBefore, 1, true)
	return list
}

// textChanges is changes of each text, and of what is in a subject.
func textChanges() []change {
	var list []change
	for _, id := range append(ids(), id0, id1) {
		list = append(list, change{"an issuer", func(c *api.Cert) { c.Issuer = id }, true}, change{"a key", func(c *api.Cert) { c.Key = id }, true})
	}
	for _, id := range []string{"", "0", id0[:31], id0 + "0", id0 + id1, strings.ToUpper(id0), id0[:31] + "g", " " + id0[1:], id0[:31] + "\x00", "/" + id0[1:], ":" + id0[1:], "`" + id0[1:], "\u0660" + id0[2:], strings.Repeat("\xff", 16)} {
		list = append(list, change{"no issuer", func(c *api.Cert) { c.Issuer = id }, false}, change{"no key", func(c *api.Cert) { c.Key = id }, false})
	}
	for kind := -1; kind <= 8; kind++ {
		list = append(list,
			change{"a kind in a namespace", func(c *api.Cert) { c.Subject.Kind = kind }, kind == 2},
			change{"a kind without one", func(c *api.Cert) { c.Subject = api.Subject{Kind: kind, Name: "n"} }, kind != 2 && kind >= 1 && kind <= 5},
		)
	}
	for _, name := range labels() {
		list = append(list, change{"a name", func(c *api.Cert) { c.Subject.Name = name }, true}, change{"a namespace", func(c *api.Cert) { c.Subject.Space = name }, true})
	}
	for _, name := range noLabels() {
		list = append(list, change{"no name", func(c *api.Cert) { c.Subject.Name = name }, false}, change{"no namespace", func(c *api.Cert) { c.Subject.Space = name }, false})
	}
	return list
}

// noLabels is texts that are no labels.
func noLabels() []string {
	return []string{"", "-", "-a", "a-", "A", "a b", "a.b", "a_b", "a/b", "a\x00", "\n", "\x7f", "\u00e9", "\xff", "a\u00e9", strings.Repeat("x", 25), strings.Repeat("x", 64), strings.Repeat("x", 65), strings.Repeat("x", 100000)}
}

// altChanges is changes of the other names.
func altChanges() []change {
	var list []change
	add := func(right bool, names ...string) {
		list = append(list, change{"other names", func(c *api.Cert) { c.Alts = names }, right})
	}
	add(true)
	list = append(list, change{"no other names", func(c *api.Cert) { c.Alts = []string{} }, true})
	for _, name := range labels() {
		add(true, name)
		add(false, name, name)
		add(false, "0", name, name)
	}
	for _, name := range noLabels() {
		add(false, name)
		add(false, "", name)
		add(false, "0", name)
		add(false, "0", "1", name, "zz")
		add(false, name, "zzz")
	}
	for i, a := range labels() {
		for j, b := range labels() {
			add(i < j, a, b)
		}
	}
	eight := []string{"a", "b", "c", "d", "e", "f", "g", "h"}
	for n := range 9 {
		add(true, eight[:n]...)
		add(n < 8, append(slices.Clone(eight[:n]), "z")...)
	}
	for i := range 7 {
		turned := slices.Clone(eight)
		turned[i], turned[i+1] = turned[i+1], turned[i]
		add(false, turned...)
		turned[i], turned[i+1] = eight[i], eight[i]
		add(false, turned...)
	}
	add(false, "b", "a")
	add(false, "a", "c", "b")
	add(true, "a", "aa", "aaa", "ab")
	add(true, "a-a", "a0", "aa")
	add(false, "a0", "a-a")
	add(true, "10", "9", "91")
	add(false, "9", "10", "91")
	return list
}

// changes is all changes.
func changes() []change { return slices.Concat(numberChanges(), textChanges(), altChanges()) }

// P11.1: one thing of a certificate is another one: what is right then, and what isn't.
func TestRightOfChanges(t *testing.T) {
	for _, change := range changes() {
		c := web()
		change.do(&c)
		if got := cert.Right(c); got != change.right {
			t.Errorf("%s: %+v is right: %v", change.what, c, got)
		}
		holdCert(t, c)
	}
	if cert.Right(api.Cert{}) {
		t.Error("what says nothing is right")
	}
}

// P11.1: two things of a certificate are others: one that isn't right makes all wrong, whatever the other one is.
func TestRightOfTwoChanges(t *testing.T) {
	r := rand.New(rand.NewSource(111))
	list := changes()
	for range 40000 {
		c := web()
		pick(r, list...).do(&c)
		pick(r, list...).do(&c)
		holdCert(t, c)
	}
}

// P11.1, P11.2: right certificates by chance.
func TestRightByChance(t *testing.T) {
	for _, c := range someRight(rand.New(rand.NewSource(112)), 20000) {
		if !cert.Right(c) {
			t.Fatalf("%+v isn't right", c)
		}
		holdCert(t, c)
	}
}

// P11.1: each field counts, alone, also of certificates that aren't right; who is asked first doesn't.
func TestSame(t *testing.T) {
	fields := []func(c *api.Cert){
		func(c *api.Cert) { c.Serial++ },
		func(c *api.Cert) { c.Issuer = id1 },
		func(c *api.Cert) { c.Gen-- },
		func(c *api.Cert) { c.Subject.Kind = api.CA },
		func(c *api.Cert) { c.Subject.Space = "" },
		func(c *api.Cert) { c.Subject.Name += "x" },
		func(c *api.Cert) { c.NotBefore = -1 },
		func(c *api.Cert) { c.NotAfter = math.MaxInt },
		func(c *api.Cert) { c.Key = strings.ToUpper(c.Key) },
		func(c *api.Cert) { c.Usages ^= 16 },
		func(c *api.Cert) { c.Alts = nil },
		func(c *api.Cert) { c.Alts = c.Alts[:1] },
		func(c *api.Cert) { c.Alts = append(slices.Clone(c.Alts), "") },
		func(c *api.Cert) { c.Alts = []string{"web-1", "web"} },
		func(c *api.Cert) { c.Alts = []string{"web", "web-2"} },
		func(c *api.Cert) { c.Alts = []string{"x", "web-1"} },
	}
	for i, one := range fields {
		a := web()
		one(&a)
		if cert.Same(a, web()) || cert.Same(web(), a) || !cert.Same(a, a) {
			t.Errorf("%d: %v %v %v", i, cert.Same(a, web()), cert.Same(web(), a), cert.Same(a, a))
		}
		for j, other := range fields {
			b := web()
			other(&b)
			if got := cert.Same(a, b); got != (i == j) {
				t.Errorf("%d and %d: %v", i, j, got)
			}
		}
	}
	a, b := web(), web()
	a.Alts, b.Alts = nil, []string{}
	if !cert.Same(a, b) || !cert.Same(b, a) || !cert.Same(api.Cert{}, api.Cert{}) || !cert.Same(web(), web()) {
		t.Error("what says the same isn't the same")
	}
}

// P11.1: Sign's errors: those of what is said first, then those of the ring; with an error nothing is signed.
func TestSignErrors(t *testing.T) {
	good, other, wrong := web(), web(), web()
	other.Issuer = id1
	wrong.Serial = 0
	wrong.Issuer = id1
	var none keys.Ring
	for _, c := range []struct {
		what string
		g    *keys.Ring
		cert api.Cert
		err  error
	}{
		{"a key that it hasn't", ringOf(t, draw0), other, api.ErrKey},
		{"the subject's key alone", ringOf(t, draw1), good, api.ErrKey},
		{"no keys", keys.New(), good, api.ErrKey},
		{"a ring that New hasn't made", &none, good, api.ErrKey},
		{"no ring", nil, good, api.ErrKey},
		{"not right, and a key that it hasn't", ringOf(t, draw0), wrong, api.ErrForm},
		{"not right", ringOf(t, draw1), wrong, api.ErrForm},
		{"not right, and no ring", nil, wrong, api.ErrForm},
		{"nothing said", ringOf(t, draw0), api.Cert{}, api.ErrForm},
	} {
		if got, err := cert.Sign(c.g, c.cert); !errors.Is(err, c.err) || got != nil {
			t.Errorf("%s: %x, %v, wanted %v", c.what, got, err, c.err)
		}
		if c.g != nil && c.g.Signed() != 0 {
			t.Errorf("%s: %d are signed", c.what, c.g.Signed())
		}
	}
	for _, change := range changes() {
		c := web()
		change.do(&c)
		g := ringOf(t, draw0)
		got, err := cert.Sign(g, c)
		switch {
		case !change.right:
			if !errors.Is(err, api.ErrForm) || got != nil || g.Signed() != 0 {
				t.Errorf("%s: %x, %v; %d are signed", change.what, got, err, g.Signed())
			}
		case c.Issuer != id0:
			if !errors.Is(err, api.ErrKey) || got != nil || g.Signed() != 0 {
				t.Errorf("%s: %x, %v; %d are signed", change.what, got, err, g.Signed())
			}
		case err != nil || g.Signed() != 1:
			t.Errorf("%s: %v; %d are signed", change.what, err, g.Signed())
		}
	}
}

// P11.2: what is signed is parsed and checked as what it says, by its ring and by copies; the signature is the issuer's key's, of the body.
func TestSignedIsParsed(t *testing.T) {
	r := rand.New(rand.NewSource(113))
	g := ringOf(t, draw0, draw1)
	key := map[string][]byte{id0: made(t, draw0), id1: made(t, draw1)}
	seen := map[string]bool{}
	for _, c := range someRight(r, 3000) {
		c.Issuer = pick(r, id0, id1)
		b, err := cert.Sign(g, c)
		signature, _ := mac.Tagged(key[c.Issuer], "cert", bodyByHand(c))
		if want := joinByHand(bodyByHand(c), signature[:]); err != nil || !bytes.Equal(b, want) {
			t.Fatalf("%+v: %x, %v, wanted %x", c, b, err, want)
		}
		if got, err := cert.Parse(b); err != nil || !equal(got, c) || !cert.Same(got, c) {
			t.Fatalf("%+v: it says %+v, %v", c, got, err)
		}
		for _, ring := range []*keys.Ring{g, g.Copy()} {
			if got, err := cert.Check(ring, b); err != nil || !equal(got, c) {
				t.Fatalf("%+v: signed, it says %+v, %v", c, got, err)
			}
		}
		holdBytes(t, g, b)
		seen[string(bodyByHand(c))] = true
		if again, err := cert.Sign(g, c); err != nil || !bytes.Equal(again, b) || g.Signed() != len(seen) {
			t.Fatalf("%+v: signed again, %x, %v; %d are signed, wanted %d", c, again, err, g.Signed(), len(seen))
		}
	}
}

// P11.1: Check's errors: Parse's first, then the ring's.
func TestCheckErrors(t *testing.T) {
	g := ringOf(t, draw0, draw1)
	b, err := cert.Sign(g, web())
	if err != nil {
		t.Fatal(err)
	}
	fewer, more := ringOf(t, draw1), ringOf(t, draw0, draw1)
	body := fieldsByHand(web())
	body[6] = []byte{3, 3, 3, 0, 8} // the usage of bit 12
	signed := func(body []byte) []byte {
		s, err := g.Sign(id0, "cert", body)
		if err != nil {
			t.Fatal(err)
		}
		return joinByHand(body, s)
	}
	for _, c := range []struct {
		what string
		g    *keys.Ring
		b    []byte
		err  error
	}{
		{"signed", g, b, nil},
		{"no bytes", g, nil, api.ErrShort},
		{"no bytes, and no ring", nil, nil, api.ErrShort},
		{"a body alone", g, bodyByHand(web()), api.ErrShort}, // its issuer in the place of a signature
		{"a signature that lacks a byte", nil, joinByHand(bodyByHand(web()), make([]byte, 31)), api.ErrShort},
		{"a signature that has one more", nil, joinByHand(bodyByHand(web()), make([]byte, 33)), api.ErrLong},
		{"a body that isn't right, but signed", g, signed(byHand(0x30, body...)), api.ErrForm},
		{"a body that isn't right, and no ring", nil, joinByHand(byHand(0x30, body...), make([]byte, 32)), api.ErrForm},
		{"a body that says nothing, but signed", g, signed([]byte{0x30, 0}), api.ErrShort},
		{"a body that is no list, but signed", g, signed([]byte{2, 1, 5}), api.ErrTag},
		{"a ring without the key", fewer, b, api.ErrKey},
		{"a ring without keys", keys.New(), b, api.ErrKey},
		{"no ring", nil, b, api.ErrKey},
		{"a ring that has the keys, and has signed nothing", more, b, api.ErrSign},
		{"a signature of noughts", g, joinByHand(bodyByHand(web()), make([]byte, 32)), api.ErrSign},
	} {
		got, err := cert.Check(c.g, c.b)
		if !same(err, c.err) || err != nil && !zero(got) || err == nil && !equal(got, web()) {
			t.Errorf("%s: %+v, %v, wanted %v", c.what, got, err, c.err)
		}
	}
}

// P11.2: what Check takes was signed: by that ring, with the domain of certificates, by the issuer's key, as that body.
func TestOnlyWhatWasSigned(t *testing.T) {
	g := ringOf(t, draw0, draw1)
	body := bodyByHand(web())
	if _, err := g.Sign(id1, "cert", body); err != nil { // by the subject's key
		t.Fatal(err)
	}
	for _, domain := range []string{"request", "pass", "certs", "cer", "c", "id"} {
		s, err := g.Sign(id0, domain, body)
		if err != nil {
			t.Fatal(err)
		}
		if _, err := cert.Check(g, joinByHand(body, s)); !errors.Is(err, api.ErrSign) {
			t.Errorf("signed with the domain %s: %v", domain, err)
		}
	}
	by := func(draw, domain string, message []byte) []byte {
		s, err := mac.Tagged(made(t, draw), domain, message)
		if err != nil {
			t.Fatal(err)
		}
		return s[:]
	}
	for what, s := range map[string][]byte{
		"reckoned":                 by(draw0, "cert", body),
		"by the subject's key":     by(draw1, "cert", body),
		"of the body's own digest": by(draw0, "cert", by(draw0, "cert", body)),
	} {
		if got, err := cert.Check(g, joinByHand(body, s)); !errors.Is(err, api.ErrSign) || !zero(got) {
			t.Errorf("%s: %+v, %v", what, got, err)
		}
	}
	other := g.Copy()
	if _, err := other.Sign(id0, "cert", body); err != nil { // whoever signs a body has made a certificate
		t.Fatal(err)
	}
	whole := joinByHand(body, by(draw0, "cert", body))
	if got, err := cert.Check(other, whole); err != nil || !equal(got, web()) {
		t.Errorf("signed by a copy: %+v, %v", got, err)
	}
	if _, err := cert.Check(g, whole); !errors.Is(err, api.ErrSign) {
		t.Errorf("signed by a copy alone: %v", err)
	}
}

// P11.2: a certificate of which a bit is turned doesn't count, nor one that has another one's signature.
func TestTurnedBits(t *testing.T) {
	g := ringOf(t, draw0, draw1)
	var list [][]byte
	for i, change := range changes() {
		c := web()
		change.do(&c)
		if c.Issuer = id0; !cert.Right(c) || i%5 > 0 && len(list) > 5 {
			continue
		}
		b, err := cert.Sign(g, c)
		if err != nil {
			t.Fatal(err)
		}
		list = append(list, b)
	}
	for _, b := range list[:5] {
		for i := range b {
			for bit := range 8 {
				turned := bytes.Clone(b)
				turned[i] ^= 1 << bit
				if got, err := cert.Check(g, turned); err == nil || !zero(got) {
					t.Fatalf("%x, of %x: %+v, %v", turned, b, got, err)
				}
				holdBytes(t, g, turned)
			}
		}
	}
	for _, a := range list {
		for _, b := range list {
			body, _, _ := cert.Split(a)
			own, signature, _ := cert.Split(b)
			if _, err := cert.Check(g, joinByHand(body, signature)); same(err, nil) != bytes.Equal(body, own) {
				t.Fatalf("%x with the signature of %x: %v", body, own, err)
			}
		}
	}
}

// The rules for every call: what is given isn't changed nor kept, and what is answered is the caller's, with the room behind it.
func TestNothingIsShared(t *testing.T) {
	g := ringOf(t, draw0)
	room := []string{"web", "web-1", "zzz"}
	c := web()
	c.Alts = room[:2]
	body, _ := cert.Body(c)
	signed, _ := cert.Sign(g, c)
	room[0] = "another"
	if !bytes.Equal(body, bodyByHand(web())) || room[1] != "web-1" || room[2] != "zzz" {
		t.Fatalf("%x, %q", body, room)
	}
	kept := bytes.Clone(signed)
	says, err1 := cert.Parse(signed)
	checked, err2 := cert.Check(g, signed)
	its, signature, err3 := cert.Split(signed)
	again, err4 := cert.Join(its, signature)
	read, err5 := cert.Read(its)
	if err := errors.Join(err1, err2, err3, err4, err5); err != nil {
		t.Fatal(err)
	}
	wipe := func(b []byte) {
		for i := range b[:cap(b)] {
			b[:cap(b)][i] ^= 0x55
		}
	}
	wipe(body)
	wipe(signed)
	if !bytes.Equal(its, bodyByHand(web())) || !bytes.Equal(joinByHand(its, signature), kept) {
		t.Error("Split's answers are of what it was given")
	}
	wipe(its)
	if !bytes.Equal(again, kept) || !bytes.Equal(signature, kept[len(kept)-32:]) {
		t.Error("Join's answer, or the signature, is of what was written over")
	}
	wipe(signature)
	if !bytes.Equal(again, kept) {
		t.Error("Join's answer is of the signature")
	}
	clear(says.Alts[:cap(says.Alts)])
	for _, c := range []api.Cert{checked, read} {
		if !equal(c, web()) {
			t.Errorf("%+v, of what was written over", c)
		}
	}
	if got, err := cert.Check(g, kept); err != nil || !equal(got, web()) || g.Signed() != 1 {
		t.Errorf("%+v, %v; %d are signed", got, err, g.Signed())
	}
}

// FuzzSign looks for what a certificate says of which the chapter tells something else.
func FuzzSign(f *testing.F) {
	f.Add(17, id0, 2, 2, "shop", "web", 951782400, 951868800, id1, 3, "web web-1")
	f.Add(1<<40, id0, 1<<20, 5, "", "ca", 0, 253402300799, id0, 15, "")
	f.Fuzz(func(t *testing.T, serial int, issuer string, gen, kind int, space, name string, notBefore, notAfter int, key string, usages int, alts string) {
		c := api.Cert{Serial: serial, Issuer: issuer, Gen: gen, Subject: api.Subject{Kind: kind, Space: space, Name: name}, NotBefore: notBefore, NotAfter: notAfter, Key: key, Usages: usages, Alts: strings.Fields(alts)}
		holdCert(t, c)
		g := ringOf(t, draw0)
		b, err := cert.Sign(g, c)
		if (err == nil) != (wantRight(c) && issuer == id0) {
			t.Fatalf("%+v: %x, %v", c, b, err)
		}
		holdBytes(t, g, b)
	})
}
