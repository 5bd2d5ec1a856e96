package verify_test

import (
	"bytes"
	"encoding/hex"
	"errors"
	"math"
	"math/rand"
	"slices"
	"strings"
	"testing"

	"bulla/api"
	"bulla/bundle"
	"bulla/cert"
	"bulla/keys"
	"bulla/mac"
	"bulla/request"
	"bulla/verify"
)

const (
	draw0 = "0123456789abcdef"
	draw1 = "a draw of rather many bytes"
	id0   = "37e1c3aad0dae26e458269bd41e4799f" // of draw0's key
	id1   = "953ced55e276463d84fb19571ae131fd" // of draw1's key
)

// bin is the bytes of figures with blanks between.
func bin(t testing.TB, figures string) []byte {
	t.Helper()
	b, err := hex.DecodeString(strings.ReplaceAll(figures, " ", ""))
	if err != nil {
		t.Fatal(err)
	}
	return b
}

// made is the key of a draw.
func made(t testing.TB, draw string) []byte {
	t.Helper()
	key, err := keys.Make([]byte(draw))
	if err != nil {
		t.Fatal(err)
	}
	return key
}

// ringOf is a ring with the keys of draws.
func ringOf(t testing.TB, draws ...string) *keys.Ring {
	t.Helper()
	g := keys.New()
	for _, draw := range draws {
		if _, err := g.Add(made(t, draw)); err != nil {
			t.Fatal(err)
		}
	}
	return g
}

// certOf is a certificate that a ring has signed.
func certOf(t testing.TB, g *keys.Ring, c api.Cert) []byte {
	t.Helper()
	b, err := cert.Sign(g, c)
	if err != nil {
		t.Fatal(err)
	}
	return b
}

// reckoned is a certificate that nobody has signed: whoever has the key can reckon it.
func reckoned(t testing.TB, draw string, c api.Cert) []byte {
	t.Helper()
	body, err := cert.Body(c)
	if err != nil {
		t.Fatal(err)
	}
	s, err := mac.Tagged(made(t, draw), "cert", body)
	if err != nil {
		t.Fatal(err)
	}
	b, err := cert.Join(body, s[:])
	if err != nil {
		t.Fatal(err)
	}
	return b
}

// web is what a right certificate says: draw0's key has issued it, with the generation 2.
func web() api.Cert {
	return api.Cert{Serial: 17, Issuer: id0, Gen: 2, Subject: api.Subject{Kind: api.Workload, Space: "shop", Name: "web"}, NotBefore: 1000, NotAfter: 2000, Key: id1, Usages: api.UseServer | api.UsePeer, Alts: []string{"web", "web-1"}}
}

// anchor is one of draw0's key, about the window of web.
func anchor() bundle.Anchor { return bundle.Anchor{Gen: 2, Key: id0, From: 900, To: 2100} }

// trust is a bundle of anchors.
func trust(list ...bundle.Anchor) bundle.Bundle {
	return bundle.Bundle{Version: 1, Space: "shop", Anchors: list}
}

// within is web's certificate, and what it counts against.
func within(t testing.TB) (asked, []byte) {
	t.Helper()
	g := ringOf(t, draw0, draw1)
	return asked{g: g, trust: trust(anchor()), list: listOf(), now: 1500}, certOf(t, g, web())
}

// example is a certificate that was reckoned apart, and what it says.
type example struct {
	cert    api.Cert
	figures string
}

// examples is certificates that were reckoned apart.
func examples() []example {
	return []example{
		{
			api.Cert{Serial: 1, Issuer: id0, Gen: 1, Subject: api.Subject{Kind: api.Node, Name: "n1"}, Key: id1, Usages: api.UseServer},
			"308196 3072 020101 041037e1c3aad0dae26e458269bd41e4799f 020101 301c300d06052bce0f01010c046e6f6465300b06052bce0f01030c026e31 3022180f31393730303130313030303030305a180f31393730303130313030303030305a 0410953ced55e276463d84fb19571ae131fd 03020780 3000" +
				"04202f1767274a9041fea3304e006052ed29bf44afc21d52c2c66cb70d5289b273cb",
		},
		{
			api.Cert{Serial: 17, Issuer: id0, Gen: 2, Subject: api.Subject{Kind: api.Workload, Space: "shop", Name: "web"}, NotBefore: 951782400, NotAfter: 951868800, Key: id1, Usages: api.UseServer | api.UseClient, Alts: []string{"web", "web-1"}},
			"3081b7 308192 020111 041037e1c3aad0dae26e458269bd41e4799f 020102 3030301106052bce0f01010c08776f726b6c6f6164300d06052bce0f01020c0473686f70300c06052bce0f01030c03776562 3022180f32303030303232393030303030305a180f32303030303330313030303030305a 0410953ced55e276463d84fb19571ae131fd 030206c0 300c0c037765620c057765622d31" +
				"04207f1182a815b184706af61fc8630bc068bed2f23e5ba1272a8cc0b7d89aa6c1f2",
		},
	}
}

// P15.1, P15.2: certificates that are written out count once they were signed, in just their windows, for just their uses, until they are revoked.
func TestExamples(t *testing.T) {
	for i, e := range examples() {
		g, b := ringOf(t, draw0), bin(t, e.figures)
		c := e.cert
		own := trust(bundle.Anchor{Gen: c.Gen, Key: id0, From: 0, To: lastMoment})
		if got, err := verify.Cert(g, own, nil, b, c.NotBefore, c.Usages); !errors.Is(err, api.ErrSign) || !zero(got) {
			t.Errorf("%d: not signed as yet: %+v, %v", i, got, err)
		}
		certOf(t, g, c)
		var v verify.Revoked
		for _, at := range []struct {
			now, use int
			err      error
		}{
			{c.NotBefore, c.Usages, nil}, {c.NotAfter, c.Usages, nil}, {c.NotBefore, 0, nil}, {c.NotAfter, api.UseServer, nil},
			{c.NotBefore - 1, 0, api.ErrEarly}, {c.NotAfter + 1, 0, api.ErrExpired}, {c.NotBefore, api.UseSign, api.ErrUsage}, {c.NotBefore, c.Usages | api.UsePeer, api.ErrUsage},
		} {
			got, err := verify.Cert(g, own, &v, b, at.now, at.use)
			if !same(err, at.err) || err == nil && !equal(got, c) || err != nil && !zero(got) {
				t.Errorf("%d: at %d, for %d: %+v, %v, wanted %v", i, at.now, at.use, got, err, at.err)
			}
		}
		v.Add(c.Gen, c.Serial)
		if got, err := verify.Cert(g, own, &v, b, c.NotBefore, 0); !errors.Is(err, api.ErrRevoked) || !zero(got) {
			t.Errorf("%d: revoked: %+v, %v", i, got, err)
		}
		if err := verify.Peer(g, own, nil, b, c.NotBefore, c.Subject); !errors.Is(err, api.ErrUsage) {
			t.Errorf("%d: as a peer: %v", i, err)
		}
		if errs := verify.All(g, own, nil, [][]byte{b, nil, b}, c.NotAfter); len(errs) != 3 || errs[0] != nil || !errors.Is(errs[1], api.ErrShort) || errs[2] != nil {
			t.Errorf("%d: all: %v", i, errs)
		}
	}
}

// P15.1: the chapter's example.
func TestOtherGeneration(t *testing.T) {
	g := ringOf(t, draw0)
	first := web()
	first.Gen = 1
	b := certOf(t, g, first)
	got, err := verify.Cert(g, trust(anchor()), nil, b, 1500, 0)
	if !errors.Is(err, api.ErrIssuer) || !zero(got) {
		t.Errorf("of generation 1, against 2 alone: %+v, %v", got, err)
	}
	older := anchor()
	older.Gen = 1
	if got, err := verify.Cert(g, trust(older), nil, b, 1500, 0); err != nil || !equal(got, first) {
		t.Errorf("of generation 1, against it: %+v, %v", got, err)
	}
}

// P15.1, P15.2: an anchor is of a key and a generation, both; neither its bundle's version nor its namespace is asked.
func TestAnchors(t *testing.T) {
	a, b := within(t)
	of := func(key string, gen int) bundle.Anchor { return bundle.Anchor{Gen: gen, Key: key, From: 900, To: 2100} }
	others := []bundle.Anchor{of(id1, 2), of(id0, 1), of(id0, 3), of(id0, 0), of(id0, -2), of("", 2), of(strings.ToUpper(id0), 2), of(id0[:31], 2), of(id0+"0", 2), of(id1, 17), of(id0, 17), of("web", 2)}
	for _, c := range []struct {
		what string
		list []bundle.Anchor
		err  error
	}{
		{"none", nil, api.ErrIssuer},
		{"an empty list", []bundle.Anchor{}, api.ErrIssuer},
		{"its own", []bundle.Anchor{anchor()}, nil},
		{"others", others, api.ErrIssuer},
		{"its own first", append([]bundle.Anchor{anchor()}, others...), nil},
		{"its own last", append(slices.Clone(others), anchor()), nil},
		{"its own twice", []bundle.Anchor{anchor(), anchor()}, nil},
	} {
		a.trust = trust(c.list...)
		if err := holdCert(t, a, b); !same(err, c.err) {
			t.Errorf("%s: %v, wanted %v", c.what, err, c.err)
		}
	}
	for _, other := range others {
		a.trust = trust(other)
		if err := holdCert(t, a, b); !errors.Is(err, api.ErrIssuer) {
			t.Errorf("%+v: %v", other, err)
		}
	}
	for _, space := range []string{"", "shop", "other", "No Label", "\xff"} {
		for _, version := range []int{math.MinInt, -1, 0, 1, mostSerial, math.MaxInt} {
			a.trust = bundle.Bundle{Version: version, Space: space, Anchors: []bundle.Anchor{anchor()}}
			if err := holdCert(t, a, b); err != nil {
				t.Errorf("%q, of version %d: %v", space, version, err)
			}
		}
	}
}

// P15.1: of several anchors of one key and generation the first one counts, whatever the others are.
func TestFirstAnchorCounts(t *testing.T) {
	a, b := within(t)
	wide, early, late := anchor(), anchor(), anchor()
	early.From, early.To = 0, 1499
	late.From, late.To = 1501, lastMoment
	other := bundle.Anchor{Gen: 1, Key: id1, From: 0, To: lastMoment}
	for _, c := range []struct {
		list []bundle.Anchor
		err  error
	}{
		{[]bundle.Anchor{wide, early}, nil}, {[]bundle.Anchor{wide, late}, nil}, {[]bundle.Anchor{early, wide}, api.ErrExpired}, {[]bundle.Anchor{late, wide}, api.ErrEarly},
		{[]bundle.Anchor{early, late}, api.ErrExpired}, {[]bundle.Anchor{late, early}, api.ErrEarly}, {[]bundle.Anchor{other, late, wide, early}, api.ErrEarly}, {[]bundle.Anchor{other, wide, other, early, late}, nil},
	} {
		a.trust = trust(c.list...)
		if err := holdCert(t, a, b); !same(err, c.err) {
			t.Errorf("%+v: %v, wanted %v", c.list, err, c.err)
		}
	}
}

// P15.1: a bundle of very many anchors, as no right one has, is gone through like any other one.
func TestManyAnchors(t *testing.T) {
	a, b := within(t)
	var list []bundle.Anchor
	for gen := 3; gen < 3000; gen++ {
		list = append(list, bundle.Anchor{Gen: gen, Key: id0, From: 0, To: lastMoment})
	}
	a.trust = trust(list...)
	if err := holdCert(t, a, b); !errors.Is(err, api.ErrIssuer) {
		t.Errorf("without its own: %v", err)
	}
	a.trust = trust(append(list, anchor())...)
	if err := holdCert(t, a, b); err != nil {
		t.Errorf("with its own: %v", err)
	}
}

// P15.1, P15.2: all windows of an anchor and of a certificate, and all moments at their edges: both windows are asked, and one that hasn't begun comes first.
func TestWindows(t *testing.T) {
	g := ringOf(t, draw0)
	list := listOf()
	edges := []int{0, 1, 5, 6, 9, lastMoment - 1, lastMoment}
	beyond := append([]int{math.MinInt, -1}, append(edges, 10, lastMoment+1, math.MaxInt)...)
	for i, from := range edges {
		for _, to := range edges[i:] {
			c := web()
			c.NotBefore, c.NotAfter = from, to
			b := certOf(t, g, c)
			for _, since := range beyond {
				for _, until := range beyond { // also windows that no right bundle has
					for _, now := range beyond {
						a := asked{g: g, trust: trust(bundle.Anchor{Gen: 2, Key: id0, From: since, To: until}), list: list, now: now}
						early, expired := now < from || now < since, now > to || now > until
						var want error
						if expired {
							want = api.ErrExpired
						}
						if early {
							want = api.ErrEarly
						}
						got, err := verify.Cert(a.g, a.trust, a.list.v, b, now, 0)
						if !same(err, want) || err != nil && !zero(got) || err == nil && !equal(got, c) {
							t.Fatalf("from %d to %d, of an anchor from %d to %d, at %d: %+v, %v, wanted %v", from, to, since, until, now, got, err, want)
						}
					}
				}
			}
		}
	}
}

// P15.1: all usages, and all uses, also those beyond their bounds.
func TestUses(t *testing.T) {
	a, _ := within(t)
	uses := []int{math.MinInt, math.MinInt + 1, math.MinInt + 15, -1 << 32, -256, -255, -17, -16, -15, -9, -8, -2, -1, 1 << 31, 1 << 32, 1<<32 + 1, 1 << 62, 1<<62 + 8, math.MaxInt - 1, math.MaxInt}
	for use := range 70 {
		uses = append(uses, use)
	}
	for usages := 1; usages <= 15; usages++ {
		c := web()
		c.Usages = usages
		b := certOf(t, a.g, c)
		for _, use := range uses {
			a.use = use
			err := holdCert(t, a, b)
			has := use >= 0 && use <= 15
			for _, bit := range []int{1, 2, 4, 8} {
				has = has && (use&bit == 0 || usages&bit != 0)
			}
			if has != (err == nil) || !has && !errors.Is(err, api.ErrUsage) {
				t.Errorf("%d for %d: %v", usages, use, err)
			}
		}
		want := error(nil)
		if usages < api.UsePeer {
			want = api.ErrUsage
		}
		if err := holdPeer(t, a, b, c.Subject); !same(err, want) {
			t.Errorf("%d as a peer: %v, wanted %v", usages, err, want)
		}
	}
}

// P15.1, P15.2: what is revoked is one serial number of one generation, as long as it is in the list.
func TestRevokedOnes(t *testing.T) {
	g := ringOf(t, draw0)
	numbers := []int{1, 2, 3, 127, 128, mostGen - 1, mostGen}
	serials := append(slices.Clone(numbers), mostSerial-1, mostSerial)
	for _, gen := range numbers {
		own := anchor()
		own.Gen = gen
		for _, serial := range serials {
			c := web()
			c.Gen, c.Serial = gen, serial
			a := asked{g: g, trust: trust(own), list: listOf([2]int{gen, serial + 1}, [2]int{gen, serial - 1}, [2]int{gen + 1, serial}, [2]int{gen - 1, serial}), now: 1500}
			if gen != serial {
				a.list.v.Add(serial, gen)
				a.list.m.add(serial, gen)
			}
			b := certOf(t, g, c)
			if err := holdCert(t, a, b); err != nil {
				t.Errorf("%d of %d, with others in the list: %v", serial, gen, err)
			}
			a.list.v.Add(gen, serial)
			a.list.m.add(gen, serial)
			if err := holdCert(t, a, b); !errors.Is(err, api.ErrRevoked) {
				t.Errorf("%d of %d, in the list: %v", serial, gen, err)
			}
			if err := holdPeer(t, a, b, c.Subject); !errors.Is(err, api.ErrRevoked) {
				t.Errorf("%d of %d, in the list, as a peer: %v", serial, gen, err)
			}
			if errs := holdAll(t, a, [][]byte{b}); !errors.Is(errs[0], api.ErrRevoked) {
				t.Errorf("%d of %d, in the list, of all: %v", serial, gen, errs)
			}
			a.list.v.Drop(gen)
			a.list.m.drop(gen)
			if err := holdCert(t, a, b); err != nil {
				t.Errorf("%d of %d, out of the list: %v", serial, gen, err)
			}
			a.list = &both{}
			if err := holdCert(t, a, b); err != nil {
				t.Errorf("%d of %d, with no list: %v", serial, gen, err)
			}
		}
	}
}

// P15.1: two anchors of one generation, as no right bundle has: the list asks for generation and serial number, not for the key.
func TestRevokedOfOtherKey(t *testing.T) {
	g := ringOf(t, draw0, draw1)
	c := web()
	c.Issuer = id1
	other := anchor()
	other.Key = id1
	a := asked{g: g, trust: trust(anchor(), other), list: listOf([2]int{2, 17}), now: 1500}
	for _, b := range [][]byte{certOf(t, g, web()), certOf(t, g, c)} {
		if err := holdCert(t, a, b); !errors.Is(err, api.ErrRevoked) {
			t.Errorf("%v", err)
		}
	}
}

// What may be amiss with a certificate, in the order of the errors.
const (
	isCut = 1 << iota
	isNotRight
	isOfNoKey
	isNotSigned
	isOfNoAnchor
	isAheadOfAnchor
	isAhead
	isBehindAnchor
	isBehind
	isRevoked
	isForOthers
	isOfOther
	allAmiss
)

// errorOf is the error of what is amiss: that of the first thing.
func errorOf(amiss int) error {
	for n, err := range []error{api.ErrShort, api.ErrForm, api.ErrKey, api.ErrSign, api.ErrIssuer, api.ErrEarly, api.ErrEarly, api.ErrExpired, api.ErrExpired, api.ErrRevoked, api.ErrUsage, api.ErrName} {
		if amiss&(1<<n) != 0 {
			return err
		}
	}
	return nil
}

// amissCert is what a ring, a certificate, and what it is held against are, with things amiss.
func amissCert(t *testing.T, amiss int) (asked, []byte) {
	t.Helper()
	is := func(what int) bool { return amiss&what != 0 }
	c, own, a := web(), anchor(), asked{g: keys.New(), list: listOf([2]int{2, 16}), now: 1500}
	if is(isForOthers) {
		c.Usages = api.UseServer | api.UseClient
	}
	if is(isAhead) {
		c.NotBefore = 1501
	}
	if is(isBehind) {
		c.NotBefore, c.NotAfter = min(c.NotBefore, 1499), 1499
	}
	if is(isAhead) && is(isBehind) {
		c.NotBefore, c.NotAfter = 1501, 1502 // it can't be both, so that it is but ahead
	}
	if is(isAheadOfAnchor) {
		own.From = 1501
	}
	if is(isBehindAnchor) {
		own.To = 1499
	}
	if is(isOfNoAnchor) {
		own.Gen = 3
	}
	if is(isRevoked) {
		a.list.v.Add(2, 17)
		a.list.m.add(2, 17)
	}
	b := reckoned(t, draw0, c)
	if is(isNotRight) {
		b = bytes.Replace(b, []byte("web-1"), []byte("web--"), 1) // it is no label then
	}
	if !is(isOfNoKey) {
		a.g.Add(made(t, draw0))
		if !is(isNotSigned) {
			certOf(t, a.g, c)
		}
	}
	if is(isCut) {
		b = b[:len(b)-1]
	}
	a.trust = trust(bundle.Anchor{Gen: 1, Key: id1, From: 0, To: lastMoment}, own)
	return a, b
}

// P15.1: all that may be amiss, alone and together; the first one's error is the answer.
func TestAmiss(t *testing.T) {
	for amiss := range allAmiss {
		a, b := amissCert(t, amiss)
		who := web().Subject
		if amiss&isOfOther != 0 {
			who.Name = "db"
		}
		if err, want := holdPeer(t, a, b, who), errorOf(amiss); !same(err, want) {
			t.Errorf("%012b: as a peer, %v, wanted %v", amiss, err, want)
		}
		a.use = api.UsePeer
		if err, want := holdCert(t, a, b), errorOf(amiss&^isOfOther); !same(err, want) {
			t.Errorf("%012b: %v, wanted %v", amiss, err, want)
		}
		a.use = pick(rand.New(rand.NewSource(int64(amiss))), -1, 16, math.MinInt, math.MaxInt)
		if err, want := holdCert(t, a, b), errorOf(amiss&^isOfOther|isForOthers); !same(err, want) {
			t.Errorf("%012b: for %d, %v, wanted %v", amiss, a.use, err, want)
		}
		if errs, want := holdAll(t, a, [][]byte{b}), errorOf(amiss&^(isOfOther|isForOthers)); !same(errs[0], want) {
			t.Errorf("%012b: of all, %v, wanted %v", amiss, errs[0], want)
		}
	}
}

// P15.2: what wasn't signed by the anchor's key in this ring, as a certificate, doesn't count.
func TestOnlyWhatWasSigned(t *testing.T) {
	g := ringOf(t, draw0, draw1)
	body, err := cert.Body(web())
	if err != nil {
		t.Fatal(err)
	}
	sign := func(g *keys.Ring, id, domain string, message []byte) []byte {
		s, err := g.Sign(id, domain, message)
		if err != nil {
			t.Fatal(err)
		}
		b, err := cert.Join(body, s)
		if err != nil {
			t.Fatal(err)
		}
		return b
	}
	other := g.Copy()
	asks, err := request.Sign(g, api.Request{Subject: web().Subject, Key: id0, Usages: 9, Duration: 1000})
	if err != nil {
		t.Fatal(err)
	}
	own := trust(anchor(), bundle.Anchor{Gen: 3, Key: id1, From: 0, To: lastMoment})
	for _, c := range []struct {
		what string
		g    *keys.Ring
		b    []byte
		err  error
	}{
		{"reckoned", g, reckoned(t, draw0, web()), api.ErrSign},
		{"by another anchor's key", g, sign(g, id1, "cert", body), api.ErrSign},
		{"as a token", g, sign(g, id0, "pass", body), api.ErrSign},
		{"as a request", g, sign(g, id0, "request", body), api.ErrSign},
		{"of nothing", g, sign(g, id0, "cert", nil), api.ErrSign},
		{"of another body", g, sign(g, id0, "cert", append(bytes.Clone(body), 0)), api.ErrSign},
		{"by another ring", g, certOf(t, ringOf(t, draw0), web()), api.ErrSign},
		{"by a copy", g, certOf(t, other, web()), api.ErrSign},
		{"a ring without keys", keys.New(), certOf(t, other, web()), api.ErrKey},
		{"a ring that New hasn't made", &keys.Ring{}, certOf(t, other, web()), api.ErrKey},
		{"a ring with the subject's key alone", ringOf(t, draw1), certOf(t, other, web()), api.ErrKey},
		{"no ring", nil, certOf(t, other, web()), api.ErrKey},
		{"no ring, and no bytes", nil, nil, api.ErrShort},
		{"a request", g, asks, api.ErrTag},
		{"a body alone", g, body, api.ErrShort},
		{"what the copy has signed, by the copy", other, certOf(t, other, web()), nil},
	} {
		a := asked{g: c.g, trust: own, list: listOf(), now: 1500}
		if err := holdCert(t, a, c.b); !same(err, c.err) {
			t.Errorf("%s: %v, wanted %v", c.what, err, c.err)
		}
		if err := holdPeer(t, a, c.b, web().Subject); !same(err, c.err) {
			t.Errorf("%s, as a peer: %v, wanted %v", c.what, err, c.err)
		}
	}
	if err := holdCert(t, asked{g: g, trust: own, list: listOf(), now: 1500}, certOf(t, g, web())); err != nil {
		t.Errorf("signed at last: %v", err)
	}
}

// P15.2: what an anchor has signed signs nothing itself: there are no chains.
func TestNoChains(t *testing.T) {
	g := ringOf(t, draw0, draw1)
	ca := web()
	ca.Subject, ca.Usages = api.Subject{Kind: api.CA, Name: "sub"}, api.UseSign
	leaf := web()
	leaf.Issuer, leaf.Serial = id1, 18
	a := asked{g: g, trust: trust(anchor()), list: listOf(), now: 1500}
	if err := holdCert(t, a, certOf(t, g, ca)); err != nil {
		t.Errorf("the one above: %v", err)
	}
	if err := holdCert(t, a, certOf(t, g, leaf)); !errors.Is(err, api.ErrIssuer) {
		t.Errorf("the one below: %v", err)
	}
}

// P15.1: each bit of a certificate, turned, and what is cut or put in.
func TestChangedBytes(t *testing.T) {
	a, b := within(t)
	r := rand.New(rand.NewSource(171))
	for i := range b {
		for bit := range 8 {
			turned := bytes.Clone(b)
			turned[i] ^= 1 << bit
			if err := holdCert(t, a, turned); err == nil {
				t.Fatalf("%x, of %x, counts", turned, b)
			}
			holdPeer(t, a, turned, web().Subject)
		}
		holdCert(t, a, b[:i])
		holdCert(t, a, b[i:])
		holdCert(t, a, slices.Delete(bytes.Clone(b), i, i+1))
		holdCert(t, a, slices.Insert(bytes.Clone(b), i, byte(r.Intn(256))))
	}
	if err := holdCert(t, a, append(bytes.Clone(b), 5, 0)); !errors.Is(err, api.ErrForm) {
		t.Errorf("with something behind it: %v", err)
	}
	for _, n := range []int{1, 100, 70000} {
		for _, x := range []byte{0, 5, 0x30, 0xff} {
			if err := holdCert(t, a, bytes.Repeat([]byte{x}, n)); err == nil {
				t.Errorf("%d of %x count", n, x)
			}
		}
	}
}

// P15.1: Peer is of somebody, and of nobody else.
func TestPeers(t *testing.T) {
	g := ringOf(t, draw0)
	var all []api.Subject
	for _, kind := range []int{1, 2, 3, 4, 5} {
		for _, name := range []string{"a", "b", "shop"} {
			if kind == api.Workload {
				all = append(all, api.Subject{Kind: kind, Space: "a", Name: name}, api.Subject{Kind: kind, Space: "shop", Name: name})
				continue
			}
			all = append(all, api.Subject{Kind: kind, Name: name})
		}
	}
	wrong := []api.Subject{{}, {Kind: 6, Name: "a"}, {Kind: 0, Name: "a"}, {Kind: -1, Name: "a"}, {Kind: 1}, {Kind: 1, Space: "shop", Name: "a"}, {Kind: 2, Name: "a"}, {Kind: 2, Space: "a"}, {Kind: 1, Name: "A"}, {Kind: 1, Name: "a "}, {Kind: math.MaxInt, Space: "\xff", Name: "\xff"}}
	a := asked{g: g, trust: trust(anchor()), list: listOf(), now: 1500}
	for i, s := range all {
		c := web()
		c.Subject = s
		b := certOf(t, g, c)
		for j, who := range append(slices.Clone(all), wrong...) {
			var want error = api.ErrName
			if i == j {
				want = nil
			}
			if err := holdPeer(t, a, b, who); !same(err, want) {
				t.Errorf("%+v, asked for %+v: %v, wanted %v", s, who, err, want)
			}
		}
	}
}

// P15.1: a peer's other names aren't its own.
func TestPeersOtherNames(t *testing.T) {
	a, b := within(t)
	for _, name := range []string{"web-1", "shop", ""} {
		if err := holdPeer(t, a, b, api.Subject{Kind: api.Workload, Space: "shop", Name: name}); !errors.Is(err, api.ErrName) {
			t.Errorf("%q: %v", name, err)
		}
	}
}

// P15.1: All is of each certificate, in their order, of no use; of none it is nothing.
func TestAll(t *testing.T) {
	a, b := within(t)
	with := func(change func(c *api.Cert)) []byte {
		c := web()
		change(&c)
		return certOf(t, a.g, c)
	}
	a.list = listOf([2]int{2, 5})
	list := [][]byte{
		b,
		nil,
		with(func(c *api.Cert) { c.Gen = 1 }),
		with(func(c *api.Cert) { c.NotBefore = 1501 }),
		b,
		with(func(c *api.Cert) { c.NotAfter = 1499 }),
		with(func(c *api.Cert) { c.Serial = 5 }),
		with(func(c *api.Cert) { c.Usages = api.UseSign }),
		reckoned(t, draw1, web()),
		{},
		b[:len(b)-1],
		b,
	}
	want := []error{nil, api.ErrShort, api.ErrIssuer, api.ErrEarly, nil, api.ErrExpired, api.ErrRevoked, nil, api.ErrSign, api.ErrShort, api.ErrShort, nil}
	for _, use := range []int{0, 15, -1} {
		a.use = use
		for i, err := range holdAll(t, a, list) {
			if !same(err, want[i]) {
				t.Errorf("%d: %v, wanted %v", i, err, want[i])
			}
		}
	}
	for n := range list {
		holdAll(t, a, list[n:])
		holdAll(t, a, list[:n])
	}
	if got := verify.All(a.g, a.trust, a.list.v, nil, 1500); len(got) != 0 {
		t.Errorf("of none: %v", got)
	}
	if got := verify.All(nil, bundle.Bundle{}, nil, [][]byte{}, -1); len(got) != 0 {
		t.Errorf("of an empty list: %v", got)
	}
	if got := verify.All(nil, bundle.Bundle{}, nil, [][]byte{b, nil}, -1); len(got) != 2 || !errors.Is(got[0], api.ErrKey) || !errors.Is(got[1], api.ErrShort) {
		t.Errorf("of no ring: %v", got)
	}
}

// P15.1: a long list.
func TestAllOfMany(t *testing.T) {
	a, b := within(t)
	list := make([][]byte, 3000)
	for i := range list {
		if list[i] = b; i%7 == 3 {
			list[i] = b[:i%len(b)]
		}
	}
	for i, err := range verify.All(a.g, a.trust, a.list.v, list, 1500) {
		if (err == nil) != (i%7 != 3) {
			t.Fatalf("%d: %v", i, err)
		}
	}
}

// P15.1, P15.2: certificates, bundles, lists and moments by chance, against the chapter's sentences; what counts is one that was signed.
func TestByChance(t *testing.T) {
	g := ringOf(t, draw0, draw1)
	r := rand.New(rand.NewSource(172))
	issued, told := map[string]bool{}, map[error]int{}
	var list [][]byte
	for range 20000 {
		c := someCert(r)
		if r.Intn(3) > 0 {
			c.NotBefore, c.NotAfter = 0, lastMoment
		}
		b := reckoned(t, map[string]string{id0: draw0, id1: draw1}[c.Issuer], c)
		if r.Intn(10) > 0 {
			certOf(t, g, c)
			issued[string(b)] = true
		}
		if r.Intn(10) == 0 {
			b[r.Intn(len(b))] ^= 1 << r.Intn(8)
		}
		a := asked{g: g, list: listOf(), now: pick(r, append(times(), -1, lastMoment+1, c.NotBefore-1, c.NotBefore, c.NotAfter, c.NotAfter+1)...), use: pick(r, 0, 0, 1, 8, c.Usages, r.Intn(16), -1, 16)}
		for range r.Intn(4) {
			own := bundle.Anchor{Gen: pick(r, c.Gen, c.Gen, c.Gen, c.Gen+1, c.Gen-1), Key: pick(r, c.Issuer, c.Issuer, id0, id1)}
			own.From, own.To = window(r)
			if r.Intn(3) > 0 {
				own.From, own.To = 0, lastMoment
			}
			a.trust.Anchors = append(a.trust.Anchors, own)
		}
		for range r.Intn(4) {
			gen, serial := pick(r, c.Gen, c.Gen+1, c.Gen-1, c.Serial), pick(r, c.Serial, c.Serial+1, c.Gen)
			a.list.v.Add(gen, serial)
			a.list.m.add(gen, serial)
		}
		err := holdCert(t, a, b)
		if told[err]++; err == nil && !issued[string(b)] {
			t.Fatalf("%x counts, and wasn't signed", b)
		}
		holdPeer(t, a, b, pick(r, c.Subject, c.Subject, api.Subject{Kind: api.Node, Name: "a"}))
		if list = append(list, b); len(list) == 8 {
			holdAll(t, a, list)
			list = nil
		}
	}
	for _, err := range []error{nil, api.ErrSign, api.ErrIssuer, api.ErrEarly, api.ErrExpired, api.ErrRevoked, api.ErrUsage} {
		if told[err] < 200 {
			t.Errorf("%v was told but %d times", err, told[err])
		}
	}
}

// P15.1: nothing that is given is changed, nor the room behind it, and an answer is its own.
func TestNothingIsShared(t *testing.T) {
	a, b := within(t)
	all := append(bytes.Clone(b), bytes.Repeat([]byte{0xee}, 300)...)
	anchors := append(make([]bundle.Anchor, 0, 5), anchor(), bundle.Anchor{Gen: 9, Key: "behind"})
	list := append(make([][]byte, 0, 4), all[:len(b)], nil, []byte("behind"))
	keptAll, keptAnchors := bytes.Clone(all), slices.Clone(anchors)
	a.trust = trust(anchors[:1]...)
	first, err := verify.Cert(a.g, a.trust, nil, all[:len(b)], 1500, 0)
	if err != nil {
		t.Fatal(err)
	}
	second, _ := verify.Cert(a.g, a.trust, nil, all[:len(b)], 1500, 0)
	errs := verify.All(a.g, a.trust, nil, list[:2], 1500)
	verify.Peer(a.g, a.trust, nil, list[0], 1500, web().Subject)
	if !bytes.Equal(all, keptAll) || !slices.Equal(anchors, keptAnchors) || string(list[2]) != "behind" || list[1] != nil {
		t.Errorf("changed: %x, %v, %q", all, anchors, list)
	}
	first.Alts[0] = "other"
	_ = append(first.Alts[:0], "more", "names")
	for i := range all {
		all[i] = 0xff
	}
	if !equal(second, web()) {
		t.Errorf("what is written over one answer, or over what was given, is in another one: %+v", second)
	}
	errs[0] = api.ErrBusy
	if again := verify.All(a.g, a.trust, nil, [][]byte{b, nil}, 1500); again[0] != nil {
		t.Errorf("what is written over an answer is in another one: %v", again)
	}
}

// P15.1: the same calls have the same answers, in whatever order they come, and nothing is kept of them.
func TestNothingIsKept(t *testing.T) {
	a, b := within(t)
	a.list = listOf([2]int{2, 16})
	wants := map[int]error{}
	moments := []int{899, 900, 999, 1000, 2000, 2001, 2101}
	for _, now := range moments {
		a.now = now
		_, wants[now] = wantCert(a, b)
	}
	r := rand.New(rand.NewSource(173))
	for range 300 {
		a.now = pick(r, moments...)
		if _, err := verify.Cert(a.g, a.trust, a.list.v, b, a.now, 0); !same(err, wants[a.now]) {
			t.Fatalf("at %d: %v, wanted %v", a.now, err, wants[a.now])
		}
		verify.Cert(a.g, bundle.Bundle{}, listOf([2]int{2, 17}).v, b, a.now, -1)
		verify.Cert(a.g, a.trust, nil, b[:5], a.now, 15)
	}
	if a.g.Signed() != 1 {
		t.Errorf("%d are signed", a.g.Signed())
	}
}

// FuzzCert looks for certificates, windows and uses of which Cert, Peer or All answers another thing than the chapter tells.
func FuzzCert(f *testing.F) {
	f.Add([]byte{}, 2, 900, 2100, 1500, 0, 17, true)
	f.Add([]byte{0x30}, 1, 0, 1, 1000, 8, 1, false)
	f.Add([]byte("x"), 3, -1, lastMoment+1, 2001, 16, 17, true)
	g := ringOf(f, draw0, draw1)
	b := certOf(f, g, web())
	f.Add(b, 2, 1000, 2000, 2000, 9, 16, false)
	f.Fuzz(func(t *testing.T, x []byte, gen, from, to, now, use, serial int, own bool) {
		a := asked{g: g, trust: trust(bundle.Anchor{Gen: gen, Key: id0, From: from, To: to}, anchor()), list: listOf([2]int{2, serial}), now: now, use: use}
		if own {
			x = b
		}
		err := holdCert(t, a, x)
		if err == nil && (!bytes.Equal(x, b) || now < 1000 || now > 2000 || serial == 17) {
			t.Fatalf("%x counts at %d, with %d in the list", x, now, serial)
		}
		holdPeer(t, a, x, web().Subject)
		holdAll(t, a, [][]byte{x, b, nil})
	})
}
