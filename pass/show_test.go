package pass_test

import (
	"bytes"
	"errors"
	"math"
	"math/rand"
	"slices"
	"strings"
	"testing"

	"bulla/api"
	"bulla/keys"
	"bulla/pass"
)

// showOf is a token that is shown at a moment.
func showOf(t testing.TB, g *keys.Ring, token []byte, now int) []byte {
	t.Helper()
	b, err := pass.Show(g, token, now)
	if err != nil {
		t.Fatal(err)
	}
	return b
}

// P14.1, P14.2: the chapter's example, and all moments at edges: what is shown at one of them is nothing at another one.
func TestShownAtOneMoment(t *testing.T) {
	g := ringOf(t, draw0, draw1)
	p := web()
	p.Expiry = lastMoment
	token := tokenOf(t, g, p)
	b := showOf(t, g, token, 5)
	if got, err := pass.Shown(g, b, 6, "plane"); !errors.Is(err, api.ErrProof) || !zero(got) {
		t.Errorf("shown at 5, asked at 6: %+v, %v", got, err)
	}
	if got, err := pass.Shown(g, b, 5, "plane"); err != nil || !equal(got, p) {
		t.Errorf("shown at 5, asked at 5: %+v, %v", got, err)
	}
	all := append(times(), 5, 6, 4, 3605, 86405, 61)
	for _, shown := range all {
		b := showOf(t, g, token, shown)
		for _, now := range all {
			var want error
			if now != shown {
				want = api.ErrProof
			}
			got, err := pass.Shown(g, b, now, "plane")
			if !same(err, want) || err != nil && !zero(got) || err == nil && !equal(got, p) {
				t.Errorf("shown at %d, asked at %d: %+v, %v, wanted %v", shown, now, got, err, want)
			}
			holdShown(t, g, b, now, "plane")
		}
	}
}

// P14.1: a token expires behind its expiry, not at it; whoever shows it isn't asked.
func TestExpiry(t *testing.T) {
	g := ringOf(t, draw0, draw1)
	for _, expiry := range times() {
		p := web()
		p.Expiry = expiry
		token := tokenOf(t, g, p)
		for _, now := range append(times(), expiry-1, expiry+1, expiry-86400, expiry+86400) {
			if now < 0 || now > lastMoment {
				continue
			}
			var want error
			if now > expiry {
				want = api.ErrExpired
			}
			b := showOf(t, g, token, now)
			got, err := pass.Shown(g, b, now, "plane")
			if !same(err, want) || err != nil && !zero(got) || err == nil && !equal(got, p) {
				t.Errorf("until %d, at %d: %+v, %v, wanted %v", expiry, now, got, err, want)
			}
		}
	}
}

// P14.1: a token is for its audience alone.
func TestAudience(t *testing.T) {
	g := ringOf(t, draw0, draw1)
	others := append(append(labels(), noLabels()...), "plan", "planes", "plane\x00", " plane", "Plane", "plane ")
	for _, its := range labels() {
		p := web()
		p.Audience = its
		b := showOf(t, g, tokenOf(t, g, p), 5)
		for _, audience := range others {
			var want error
			if audience != its {
				want = api.ErrUsage
			}
			got, err := pass.Shown(g, b, 5, audience)
			if !same(err, want) || err != nil && !zero(got) || err == nil && !equal(got, p) {
				t.Errorf("for %q, asked for %.100q: %+v, %v, wanted %v", its, audience, got, err, want)
			}
		}
	}
}

// P14.1: Show's errors, in order; with an error nothing is signed.
func TestShowErrors(t *testing.T) {
	token := tokenOf(t, ringOf(t, draw0), web())
	signature := token[len(token)-32:]
	wrong := with(map[int][]byte{atAccount: subjectByHand(api.Subject{Kind: api.Node, Name: "n1"})})
	none := &keys.Ring{}
	for _, c := range []struct {
		what  string
		g     *keys.Ring
		token []byte
		now   int
		err   error
	}{
		{"no bytes", ringOf(t, draw1), nil, 5, api.ErrShort},
		{"no bytes, no moment, and no ring", nil, nil, -1, api.ErrShort},
		{"a body alone", ringOf(t, draw1), bodyByHand(web()), 5, api.ErrShort},
		{"a signature that lacks a byte", ringOf(t, draw1), joinByHand(bodyByHand(web()), signature[:31]), 5, api.ErrShort},
		{"a signature that lacks a byte, of what isn't right", nil, joinByHand(wrong, signature[:31]), -1, api.ErrShort},
		{"something behind it", ringOf(t, draw1), append(bytes.Clone(token), 5, 0), 5, api.ErrForm},
		{"what isn't right", ringOf(t, draw1), joinByHand(wrong, signature), 5, api.ErrForm},
		{"what isn't right, no moment, and no ring", nil, joinByHand(wrong, signature), -1, api.ErrForm},
		{"what can't be read, and no moment", ringOf(t, draw1), joinByHand([]byte{2, 1, 5}, signature), lastMoment + 1, api.ErrTag},
		{"a moment below 0", ringOf(t, draw1), token, -1, api.ErrRange},
		{"the least number", ringOf(t, draw1), token, math.MinInt, api.ErrRange},
		{"a moment beyond the last one", ringOf(t, draw1), token, lastMoment + 1, api.ErrRange},
		{"the greatest number", ringOf(t, draw1), token, math.MaxInt, api.ErrRange},
		{"no moment, and a ring without the bound key", ringOf(t, draw0), token, -1, api.ErrRange},
		{"no moment, and no ring", nil, token, -1, api.ErrRange},
		{"a ring with but the issuer's key", ringOf(t, draw0), token, 5, api.ErrKey},
		{"a ring without keys", keys.New(), token, 5, api.ErrKey},
		{"a ring that New hasn't made", none, token, 5, api.ErrKey},
		{"no ring", nil, token, 5, api.ErrKey},
		{"something that is shown already", ringOf(t, draw1), joinByHand(token, signature), 5, api.ErrTag},
	} {
		if got, err := pass.Show(c.g, c.token, c.now); !errors.Is(err, c.err) || got != nil {
			t.Errorf("%s: %x, %v, wanted %v", c.what, got, err, c.err)
		}
		if c.g != nil && c.g.Signed() != 0 {
			t.Errorf("%s: %d are signed", c.what, c.g.Signed())
		}
	}
}

// P14.1: Show asks neither who has signed a token, nor whether it has expired; Shown does.
func TestShowOfAnyToken(t *testing.T) {
	body := bodyByHand(web())
	for what, c := range map[string]struct {
		g     *keys.Ring
		token []byte
		now   int
		err   error
	}{
		"nobody has signed it":         {ringOf(t, draw0, draw1), joinByHand(body, make([]byte, 32)), 5, api.ErrSign},
		"nobody known has issued it":   {ringOf(t, draw1), joinByHand(body, make([]byte, 32)), 5, api.ErrKey},
		"another ring has signed it":   {ringOf(t, draw0, draw1), tokenOf(t, ringOf(t, draw0), web()), 5, api.ErrSign},
		"it has expired, and unsigned": {ringOf(t, draw0, draw1), joinByHand(body, make([]byte, 32)), lastMoment, api.ErrSign},
	} {
		b, err := pass.Show(c.g, c.token, c.now)
		want := joinByHand(c.token, by(t, draw1, "show", append(bytes.Clone(c.token), bodyOfMoment(c.now)...)))
		if err != nil || !bytes.Equal(b, want) || c.g.Signed() != 1 {
			t.Errorf("%s: %x, %v, wanted %x; %d are signed", what, b, err, want, c.g.Signed())
		}
		if got, err := pass.Shown(c.g, b, c.now, "plane"); !errors.Is(err, c.err) || !zero(got) {
			t.Errorf("%s: %+v, %v, wanted %v", what, got, err, c.err)
		}
	}
}

// What may be amiss with what is shown, in the order of the errors.
const (
	shownCut = 1 << iota
	tokenLong
	bodyRange
	bodyForm
	noIssuer
	notSigned
	noMoment
	noBound
	notShown
	otherAudience
	expired
	allAmiss
)

// errorOf is the error of what is amiss: that of the first thing.
func errorOf(amiss int) error {
	list := []error{api.ErrShort, api.ErrLong, api.ErrRange, api.ErrForm, api.ErrKey, api.ErrSign, api.ErrRange, api.ErrKey, api.ErrProof, api.ErrUsage, api.ErrExpired}
	for n, err := range list {
		if amiss&(1<<n) != 0 {
			return err
		}
	}
	return nil
}

// sealedBy is a ring's signature, or one that was but reckoned: where the ring hasn't the key, or isn't to sign.
func sealedBy(t *testing.T, g *keys.Ring, id, domain string, message []byte, not bool) []byte {
	t.Helper()
	if not || !g.Has(id) {
		return by(t, drawOf(id), domain, message)
	}
	return signed(t, g, id, domain, message)
}

// shownAmiss is a ring, what is shown, when it is asked, and for whom.
func shownAmiss(t *testing.T, amiss int) (*keys.Ring, []byte, int, string) {
	t.Helper()
	is := func(what int) bool { return amiss&what != 0 }
	g := keys.New()
	if !is(noIssuer) {
		g.Add(made(t, draw0))
	}
	if !is(noBound) {
		g.Add(made(t, draw1))
	}
	now, audience := 1000, "plane"
	fields := map[int][]byte{}
	if is(bodyRange) {
		fields[atSerial] = []byte{2, 1, 0}
	}
	if is(bodyForm) {
		fields[atAccount] = subjectByHand(api.Subject{Kind: api.Boot, Name: "n1"})
	}
	if is(expired) {
		fields[atExpiry] = momentByHand(now - 1)
	}
	if is(otherAudience) {
		audience = "shop"
	}
	body := with(fields)
	signature := sealedBy(t, g, id0, "pass", body, is(notSigned))
	if is(tokenLong) {
		signature = append(signature, 0)
	}
	token := joinByHand(body, signature)
	shown := sealedBy(t, g, id1, "show", append(bytes.Clone(token), bodyOfMoment(now)...), is(notShown))
	if is(noMoment) {
		now = pick(rand.New(rand.NewSource(int64(amiss))), -1, lastMoment+1, math.MaxInt, math.MinInt)
	}
	if is(shownCut) {
		shown = shown[:31]
	}
	return g, joinByHand(token, shown), now, audience
}

// P14.1: Shown's errors: all that may be amiss, alone and together; the first one is the answer.
func TestShownAmiss(t *testing.T) {
	for amiss := range allAmiss {
		g, b, now, audience := shownAmiss(t, amiss)
		want := errorOf(amiss)
		got, err := pass.Shown(g, b, now, audience)
		if !same(err, want) || err != nil && !zero(got) || err == nil && !equal(got, web()) {
			t.Errorf("%011b: %+v, %v, wanted %v", amiss, got, err, want)
		}
		holdShown(t, g, b, now, audience)
	}
}

// P14.1: Shown's errors of what stands about the token and the signature.
func TestShownErrors(t *testing.T) {
	g := ringOf(t, draw0, draw1)
	token := tokenOf(t, g, web())
	b := showOf(t, g, token, 5)
	signature := byHand(4, b[len(b)-32:])
	body, own := bodyByHand(web()), token[len(token)-34:]
	other := web()
	other.Serial++
	var none keys.Ring
	for _, c := range []struct {
		what string
		g    *keys.Ring
		b    []byte
		err  error
	}{
		{"shown", g, b, nil},
		{"no bytes", g, nil, api.ErrShort},
		{"no bytes, and no ring", nil, nil, api.ErrShort},
		{"an empty list", g, []byte{0x30, 0}, api.ErrShort},
		{"a token alone", g, token, api.ErrShort}, // its body in the place of a token: a number of it in the place of a signature
		{"a token in a list", g, byHand(0x30, token), api.ErrShort},
		{"a signature alone", g, byHand(0x30, signature), api.ErrShort},
		{"the signature ahead of the token", g, byHand(0x30, signature, token), api.ErrTag},
		{"another tag", g, byHand(0xa2, token, signature), api.ErrTag},
		{"a set", g, byHand(0x31, signature, token), api.ErrTag},
		{"a signature that lacks a byte", g, joinByHand(token, signature[2:33]), api.ErrShort},
		{"a signature of no bytes", g, joinByHand(token, nil), api.ErrShort},
		{"a signature that has one more", g, joinByHand(token, append(signature[2:34:34], 0)), api.ErrLong},
		{"a signature as a text", g, byHand(0x30, token, byHand(0x0c, bytes.Repeat([]byte{'a'}, 32))), api.ErrTag},
		{"something behind the signature", g, byHand(0x30, token, signature, []byte{5, 0}), api.ErrForm},
		{"two signatures", g, byHand(0x30, token, signature, signature), api.ErrForm},
		{"something behind it", g, append(bytes.Clone(b), 5, 0), api.ErrForm},
		{"something behind it that is none", g, append(bytes.Clone(b), 7), api.ErrForm},
		{"its end missing", g, b[:len(b)-1], api.ErrShort},
		{"a signature of no bytes, of a token that is none", g, joinByHand([]byte{5, 0}, nil), api.ErrShort},
		{"a token that is none", g, joinByHand([]byte{5, 0}, signature[2:]), api.ErrTag},
		{"a token's bytes", g, joinByHand(byHand(4, token), signature[2:]), api.ErrTag},
		{"a token's body", g, joinByHand(body, signature[2:]), api.ErrShort},
		{"a token without its signature", g, joinByHand(byHand(0x30, body), signature[2:]), api.ErrShort},
		{"a token with something behind its signature", g, joinByHand(byHand(0x30, body, own, []byte{5, 0}), signature[2:]), api.ErrForm},
		{"shown twice", g, showTwice(t, g, b), api.ErrTag},
		{"another token", g, joinByHand(tokenOf(t, g, other), signature[2:]), api.ErrProof},
		{"a ring without keys", keys.New(), b, api.ErrKey},
		{"a ring that New hasn't made", &none, b, api.ErrKey},
		{"no ring", nil, b, api.ErrKey},
		{"a ring that has the keys, and has signed nothing", ringOf(t, draw0, draw1), b, api.ErrSign},
	} {
		got, err := pass.Shown(c.g, c.b, 5, "plane")
		if !same(err, c.err) || err != nil && !zero(got) || err == nil && !equal(got, web()) {
			t.Errorf("%s: %+v, %v, wanted %v", c.what, got, err, c.err)
		}
		if c.g != nil {
			holdShown(t, c.g, c.b, 5, "plane")
		}
	}
}

// showTwice is what is shown, shown as if it were a token.
func showTwice(t *testing.T, g *keys.Ring, b []byte) []byte {
	t.Helper()
	return joinByHand(b, signed(t, g, id1, "show", append(bytes.Clone(b), bodyOfMoment(5)...)))
}

// P14.2: what Shown takes was shown by the bound key, with the domain of showing, as the token's bytes and the moment's body, and by that ring.
func TestOnlyWhatWasShown(t *testing.T) {
	g := ringOf(t, draw0, draw1)
	token := tokenOf(t, g, web())
	at := bodyOfMoment(5)
	message := slices.Concat(token, at)
	for _, domain := range []string{"pass", "cert", "request", "login", "hello", "shown", "sho", "s", "id", "key"} {
		if got, err := pass.Shown(g, joinByHand(token, signed(t, g, id1, domain, message)), 5, "plane"); !errors.Is(err, api.ErrProof) || !zero(got) {
			t.Errorf("shown with the domain %s: %+v, %v", domain, got, err)
		}
	}
	body := bodyByHand(web())
	for what, s := range map[string][]byte{
		"noughts":                           make([]byte, 32),
		"reckoned":                          by(t, draw1, "show", message),
		"the token's own signature":         bytes.Clone(token[len(token)-32:]),
		"by the issuer":                     signed(t, g, id0, "show", message),
		"of the token alone":                signed(t, g, id1, "show", token),
		"of the moment alone":               signed(t, g, id1, "show", at),
		"of nothing":                        signed(t, g, id1, "show", nil),
		"of the moment and the token":       signed(t, g, id1, "show", slices.Concat(at, token)),
		"of the token and the element":      signed(t, g, id1, "show", slices.Concat(token, byHand(0x18, at))),
		"of the token's body":               signed(t, g, id1, "show", slices.Concat(body, at)),
		"of the token and figures":          signed(t, g, id1, "show", append(bytes.Clone(token), '5')),
		"of the token and another moment":   signed(t, g, id1, "show", slices.Concat(token, bodyOfMoment(6))),
		"of the token and a lacking moment": signed(t, g, id1, "show", message[:len(message)-1]),
		"of a list of both":                 signed(t, g, id1, "show", byHand(0x30, token, byHand(0x18, at))),
	} {
		if got, err := pass.Shown(g, joinByHand(token, s), 5, "plane"); !errors.Is(err, api.ErrProof) || !zero(got) {
			t.Errorf("%s: %+v, %v", what, got, err)
		}
	}
	other := g.Copy()
	b := joinByHand(token, signed(t, other, id1, "show", message)) // whoever signs that has shown it
	if got, err := pass.Shown(other, b, 5, "plane"); err != nil || !equal(got, web()) {
		t.Errorf("shown by a copy: %+v, %v", got, err)
	}
	if got, err := pass.Shown(g, b, 5, "plane"); !errors.Is(err, api.ErrProof) || !zero(got) {
		t.Errorf("shown by a copy alone: %+v, %v", got, err)
	}
}

// P14.2: somebody who has another one's token, and but a key of its own, can't show it.
func TestAnothersToken(t *testing.T) {
	g := ringOf(t, draw0, draw1, "the draw of somebody else")
	thief := ringOf(t, "the draw of somebody else")
	own, err := g.Add(made(t, "the draw of somebody else"))
	if err != nil {
		t.Fatal(err)
	}
	token := tokenOf(t, g, web())
	if got, err := pass.Show(thief, token, 5); !errors.Is(err, api.ErrKey) || got != nil {
		t.Errorf("without the bound key: %x, %v", got, err)
	}
	s := signed(t, g, own, "show", append(bytes.Clone(token), bodyOfMoment(5)...))
	if got, err := pass.Shown(g, joinByHand(token, s), 5, "plane"); !errors.Is(err, api.ErrProof) || !zero(got) {
		t.Errorf("by a key of its own: %+v, %v", got, err)
	}
	bound := web()
	bound.Bound = own
	forged := joinByHand(bodyByHand(bound), token[len(token)-32:]) // bound to its own key, with the signature of the other one
	b := showOf(t, g, forged, 5)
	if got, err := pass.Shown(g, b, 5, "plane"); !errors.Is(err, api.ErrSign) || !zero(got) {
		t.Errorf("bound anew: %+v, %v", got, err)
	}
}

// P14.1, P14.2: what is signed and shown is taken as what it says, whatever it says, also where issuer and bound key are one.
func TestShowAndShown(t *testing.T) {
	g := ringOf(t, draw0, draw1)
	r := rand.New(rand.NewSource(150))
	for range 3 {
		for _, p := range someRight(r, 800) {
			p.Issuer, p.Bound = pick(r, id0, id1), pick(r, id0, id1)
			now := pick(r, append(times(), p.Expiry, max(p.Expiry-1, 0), min(p.Expiry+1, lastMoment), r.Intn(p.Expiry+1))...)
			token := tokenOf(t, g, p)
			b := showOf(t, g, token, now)
			message := append(bytes.Clone(token), bodyOfMoment(now)...)
			if want := joinByHand(token, by(t, drawOf(p.Bound), "show", message)); !bytes.Equal(b, want) {
				t.Fatalf("%+v: shown at %d, %x, wanted %x", p, now, b, want)
			}
			got, err := pass.Shown(g, b, now, p.Audience)
			if now > p.Expiry {
				if !errors.Is(err, api.ErrExpired) || !zero(got) {
					t.Fatalf("%+v: shown at %d, %+v, %v", p, now, got, err)
				}
			} else if err != nil || !equal(got, p) || !pass.Same(got, p) {
				t.Fatalf("%+v: shown at %d, %+v, %v", p, now, got, err)
			}
			holdToken(t, g, token, now)
			holdShown(t, g, b, pick(r, now, now, now+1, now-1, -now), pick(r, p.Audience, p.Audience, pick(r, labels()...)))
		}
	}
}

// P14.1, P14.2: each bit of what is shown, turned; and each one with the signature of another one.
func TestShownTurned(t *testing.T) {
	g := ringOf(t, draw0, draw1)
	var tokens, list [][]byte
	for _, p := range append(someRight(rand.New(rand.NewSource(151)), 30), web()) {
		p.Issuer, p.Bound, p.Audience, p.Expiry = id0, id1, "plane", lastMoment
		tokens = append(tokens, tokenOf(t, g, p))
		list = append(list, showOf(t, g, tokens[len(tokens)-1], 5))
	}
	for _, b := range list[27:] {
		for i := range b {
			for bit := range 8 {
				turned := bytes.Clone(b)
				turned[i] ^= 1 << bit
				got, err := pass.Shown(g, turned, 5, "plane")
				if err == nil || !zero(got) || i >= len(b)-32 && !errors.Is(err, api.ErrProof) {
					t.Fatalf("%x, of %x: %+v, %v", turned, b, got, err)
				}
				holdShown(t, g, turned, 5, "plane")
			}
		}
	}
	for i, a := range tokens {
		for j, b := range list {
			var want error = api.ErrProof
			if bytes.Equal(a, tokens[j]) {
				want = nil
			}
			if _, err := pass.Shown(g, joinByHand(a, b[len(b)-32:]), 5, "plane"); !same(err, want) {
				t.Fatalf("token %d with what shows %d: %v, wanted %v", i, j, err, want)
			}
		}
	}
}

// P14.1: what is shown, changed byte by byte, cut, and with a byte put in.
func TestShownChanged(t *testing.T) {
	g := ringOf(t, draw0, draw1)
	r := rand.New(rand.NewSource(152))
	for _, p := range someRight(r, 4) {
		p.Issuer, p.Bound, p.Audience = id0, id1, "plane"
		b := showOf(t, g, tokenOf(t, g, p), 5)
		for i := range b {
			holdShown(t, g, b[:i], 5, "plane")
			holdShown(t, g, b[i:], 5, "plane")
			holdShown(t, g, slices.Delete(bytes.Clone(b), i, i+1), 5, "plane")
			for range 8 {
				changed := bytes.Clone(b)
				changed[i] = byte(r.Intn(256))
				holdShown(t, g, changed, 5, "plane")
				holdShown(t, g, slices.Insert(bytes.Clone(b), i, byte(r.Intn(256))), 5, "plane")
			}
		}
	}
}

// P14.1: what is shown by chance, with bodies, tokens, signatures and moments of all kinds.
func TestShownByChance(t *testing.T) {
	g := ringOf(t, draw0, draw1)
	r := newChance(153)
	told := map[error]int{}
	for range 30000 {
		p := pick(r.Rand, r.right...)
		p.Issuer, p.Bound = pick(r.Rand, id0, id0, id1), pick(r.Rand, id0, id1, id1, p.Bound)
		body := bodyByHand(p)
		if r.Intn(10) == 0 {
			body = r.body()
		}
		token := joinByHand(body, sealedBy(t, g, p.Issuer, "pass", body, r.Intn(10) == 0))
		shown, now := pick(r.Rand, times()...), pick(r.Rand, 0, 5, p.Expiry, lastMoment)
		if r.Intn(4) > 0 {
			shown = now
		}
		by := pick(r.Rand, id0, id1)
		if g.Has(p.Bound) && r.Intn(4) > 0 {
			by = p.Bound
		}
		message := append(bytes.Clone(token), bodyOfMoment(shown)...)
		b := joinByHand(token, signed(t, g, by, "show", message)[:pick(r.Rand, 32, 32, 32, 32, 32, 31)])
		if r.Intn(10) == 0 {
			now = pick(r.Rand, -1, lastMoment+1)
		}
		audience := pick(r.Rand, p.Audience, p.Audience, p.Audience, "plane")
		holdShown(t, g, b, now, audience)
		_, err := pass.Shown(g, b, now, audience)
		told[err]++
	}
	for _, err := range []error{nil, api.ErrShort, api.ErrForm, api.ErrSign, api.ErrRange, api.ErrKey, api.ErrProof, api.ErrUsage, api.ErrExpired} {
		if told[err] < 100 {
			t.Errorf("%v was told but %d times", err, told[err])
		}
	}
}

// roomy is bytes with room behind them, and all of it.
func roomy(b []byte) (its, all []byte) {
	all = append(bytes.Clone(b), bytes.Repeat([]byte{0xee}, 200)...)
	return all[:len(b)], all
}

// overwrite writes over bytes, with the room behind them.
func overwrite(b []byte) {
	b = b[:cap(b)]
	for i := range b {
		b[i] ^= 0x55
	}
}

// The rules for every call: what is given isn't changed nor kept, with the room behind it, and what is answered is the caller's.
func TestNothingIsShared(t *testing.T) {
	g := ringOf(t, draw0, draw1)
	body, err1 := pass.Body(web())
	token, err2 := pass.Sign(g, web())
	kept := bytes.Clone(token)
	given, all := roomy(token)
	shown, err3 := pass.Show(g, given, 5)
	keptShown := bytes.Clone(shown)
	read, err4 := pass.Read(body)
	checked, err5 := pass.Check(g, given)
	asked, allShown := roomy(shown)
	taken, err6 := pass.Shown(g, asked, 5, "plane")
	if err := errors.Join(err1, err2, err3, err4, err5, err6); err != nil {
		t.Fatal(err)
	}
	for what, c := range map[string][2][]byte{"a token": {all, kept}, "what is shown": {allShown, keptShown}} {
		if want := append(bytes.Clone(c[1]), bytes.Repeat([]byte{0xee}, 200)...); !bytes.Equal(c[0], want) {
			t.Errorf("%s: %x, wanted %x", what, c[0], want)
		}
	}
	for _, b := range [][]byte{body, token, given, shown, asked} {
		overwrite(b)
	}
	for what, p := range map[string]api.Pass{"read": read, "checked": checked, "shown": taken} {
		if !equal(p, web()) {
			t.Errorf("%s: %+v, of what was written over", what, p)
		}
	}
	if got, err := pass.Shown(g, keptShown, 5, "plane"); err != nil || !equal(got, web()) || g.Signed() != 2 {
		t.Errorf("%+v, %v; %d are signed", got, err, g.Signed())
	}
	if again, err := pass.Show(g, kept, 5); err != nil || !bytes.Equal(again, keptShown) || g.Signed() != 2 {
		t.Errorf("shown again: %x, %v; %d are signed", again, err, g.Signed())
	}
}

// FuzzShown looks for what is shown of which the chapter tells something else.
func FuzzShown(f *testing.F) {
	g := ringOf(f, draw0, draw1)
	token := tokenOf(f, g, web())
	f.Add([]byte{}, 5, "plane")
	f.Add(showOf(f, g, token, 5), 5, "plane")
	f.Add(showOf(f, g, token, 951868801), 951868801, "plane")
	f.Add(joinByHand(token, make([]byte, 32)), -1, strings.Repeat("x", 25))
	f.Fuzz(func(t *testing.T, b []byte, now int, audience string) { holdShown(t, g, b, now, audience) })
}
