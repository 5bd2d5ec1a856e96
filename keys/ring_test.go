package keys_test

import (
	"bytes"
	"encoding/hex"
	"errors"
	"strings"
	"testing"

	"bulla/api"
	"bulla/keys"
)

const draw0, draw1 = "0123456789abcdef", "a draw of rather many bytes"

// P10.1: signatures that are written out.
func TestSignExamples(t *testing.T) {
	g, ids := ringOf(t, made(t, draw0))
	for i, e := range []struct {
		domain  string
		message []byte
		figures string
	}{
		{"cert", nil, "470f7966044a6044b7c87a09a92637f492827060bdc090ea94dc155bab121320"},
		{"cert", []byte("a message"), "d606963863ca81f4d789b575c5a59df29165d5c3b18964e1e2cae8aea7c064b6"},
		{"pass", []byte("a message"), "30238e2cdffccc5d2661bfa6843e6aa54ad9f1d4e7feff919a04a16d6cf946a0"},
		{"-", make([]byte, 100), "4342249ba9f1f56723861a6e29093079bf6030425041ea0cc31d1c6ed00f1fd4"},
		{strings.Repeat("z", 32), make([]byte, 65536), "fdd6e250322485160b0eb8a198e9f0df2bd4959f226732094a84931d756e10a7"},
	} {
		right, _ := hex.DecodeString(e.figures)
		if err := g.Verify(ids[0], e.domain, e.message, right); !errors.Is(err, api.ErrSign) {
			t.Errorf("%s: not signed as yet: %v", e.figures, err)
		}
		got, err := g.Sign(ids[0], e.domain, e.message)
		if err != nil || !bytes.Equal(got, right) || g.Signed() != i+1 {
			t.Errorf("%x, %v, wanted %s; %d are signed", got, err, e.figures, g.Signed())
		}
		if err := g.Verify(ids[0], e.domain, e.message, right); err != nil {
			t.Errorf("%s: %v", e.figures, err)
		}
	}
}

// P10.2: the chapter's example.
func TestOtherDomain(t *testing.T) {
	g, ids := ringOf(t, made(t, draw0))
	signature, err := g.Sign(ids[0], "a", []byte("m"))
	if err != nil {
		t.Fatal(err)
	}
	if err := g.Verify(ids[0], "b", []byte("m"), signature); !errors.Is(err, api.ErrSign) {
		t.Error(err)
	}
}

// P10.1: keys of each length; of Digest bytes alone it has them.
func TestAddLengths(t *testing.T) {
	for n := range 200 {
		key := run(n, n)
		g := keys.New()
		id, err := g.Add(key)
		if n == 32 {
			if err != nil || id != numberByHand(key) || !g.Has(id) {
				t.Errorf("%s, %v, wanted %s", id, err, numberByHand(key))
			}
		} else if !errors.Is(err, api.ErrForm) || id != "" || g.Has(numberByHand(key)) || g.Has("") {
			t.Errorf("%d bytes: %q, %v", n, id, err)
		}
	}
	g := keys.New()
	if id, err := g.Add(nil); !errors.Is(err, api.ErrForm) || id != "" || g.Has(id) {
		t.Errorf("no key: %q, %v", id, err)
	}
}

// P10.1: a ring has each key that was put into it, once, and none else; with a wrong one nothing changes.
func TestAddMany(t *testing.T) {
	g := keys.New()
	for i := range 200 {
		key := run(i, 32)
		id := numberByHand(key)
		if g.Has(id) {
			t.Fatalf("key %d is there ahead of its time", i)
		}
		for range 3 {
			if got, err := g.Add(key); err != nil || got != id {
				t.Fatalf("key %d: %s, %v, wanted %s", i, got, err, id)
			}
			if _, err := g.Add(key[:31]); !errors.Is(err, api.ErrForm) {
				t.Fatal(err)
			}
		}
		for j := range 200 {
			if g.Has(numberByHand(run(j, 32))) != (j <= i) {
				t.Fatalf("key %d, with those up to %d", j, i)
			}
		}
	}
	if g.Signed() != 0 {
		t.Errorf("%d are signed", g.Signed())
	}
}

// P10.1: a key that comes again leaves what was signed by it.
func TestAddAgainBehindSign(t *testing.T) {
	key := made(t, draw0)
	g, ids := ringOf(t, key)
	signature, _ := g.Sign(ids[0], "a", []byte("m"))
	if id, err := g.Add(key); err != nil || id != ids[0] || g.Signed() != 1 {
		t.Errorf("%s, %v; %d are signed", id, err, g.Signed())
	}
	if err := g.Verify(ids[0], "a", []byte("m"), signature); err != nil {
		t.Error(err)
	}
}

// P10.1: texts that are no key's number, and a number byte by byte.
func TestNoSuchKey(t *testing.T) {
	g, ids := ringOf(t, made(t, draw0), make([]byte, 32))
	id := ids[0]
	others := []string{"", "0", strings.Repeat("0", 32), id[:31], id[1:], id + "0", id + "\x00", " " + id, strings.ToUpper(id), id + id, string(made(t, draw0)), "\xff", numberByHand(run(1, 32))}
	for i := range id {
		for c := range 256 {
			if byte(c) != id[i] {
				others = append(others, id[:i]+string([]byte{byte(c)})+id[i+1:])
			}
		}
	}
	for _, other := range others {
		if g.Has(other) {
			t.Fatalf("it has %q", other)
		}
		if got, err := g.Sign(other, "a", nil); !errors.Is(err, api.ErrKey) || got != nil {
			t.Fatalf("%q: %x, %v", other, got, err)
		}
		if err := g.Verify(other, "a", nil, tagByHand(made(t, draw0), "a", nil)); !errors.Is(err, api.ErrKey) {
			t.Fatalf("%q: %v", other, err)
		}
	}
	if !g.Has(id) || g.Signed() != 0 {
		t.Errorf("%v, %d are signed", g.Has(id), g.Signed())
	}
}

// wrongSigns is what Sign and Verify refuse, whatever the signature is.
func wrongSigns(id string) []struct {
	what, id, domain string
	message          []byte
	err              error
} {
	long, over := strings.Repeat("a", 33), make([]byte, 65537)
	return []struct {
		what, id, domain string
		message          []byte
		err              error
	}{
		{"no key", "", "a", nil, api.ErrKey},
		{"no key, no domain", "", "", nil, api.ErrKey},
		{"no key, no domain, too long a message", "", "", over, api.ErrKey},
		{"no key, too long a message", numberByHand(run(9, 32)), "a", over, api.ErrKey},
		{"no domain", id, "", nil, api.ErrText},
		{"no domain, too long a message", id, "", over, api.ErrText},
		{"a great letter", id, "Cert", nil, api.ErrText},
		{"a blank", id, "a b", nil, api.ErrText},
		{"a letter of two bytes", id, "\u00e4", nil, api.ErrText},
		{"no UTF-8", id, "\xff", nil, api.ErrText},
		{"a domain of 33 bytes", id, long, nil, api.ErrText},
		{"a domain of 33 bytes, too long a message", id, long, over, api.ErrText},
		{"a message of 65537 bytes", id, "a", over, api.ErrLong},
		{"a message of 2^20 bytes", id, strings.Repeat("a", 32), make([]byte, 1<<20), api.ErrLong},
	}
}

// P10.1: the errors of Sign and Verify, in their order: with one nothing is signed.
func TestSignErrors(t *testing.T) {
	g, ids := ringOf(t, made(t, draw0))
	for _, w := range wrongSigns(ids[0]) {
		if got, err := g.Sign(w.id, w.domain, w.message); !errors.Is(err, w.err) || got != nil {
			t.Errorf("Sign: %s: %x, %v, wanted %v", w.what, got, err, w.err)
		}
		for _, signature := range [][]byte{nil, {}, make([]byte, 31), make([]byte, 32), make([]byte, 33), tagByHand(made(t, draw0), w.domain, w.message)} {
			if err := g.Verify(w.id, w.domain, w.message, signature); !errors.Is(err, w.err) {
				t.Errorf("Verify: %s: %v, wanted %v", w.what, err, w.err)
			}
		}
		if g.Signed() != 0 {
			t.Fatalf("%s: %d are signed", w.what, g.Signed())
		}
	}
}

// P10.1: domains of 1 to 32 bytes, each byte.
func TestDomains(t *testing.T) {
	key := made(t, draw0)
	g, ids := ringOf(t, key)
	count := 0
	for n := 1; n <= 33; n++ {
		for c := range 256 {
			domain := strings.Repeat("m", n-1) + string([]byte{byte(c)})
			got, err := g.Sign(ids[0], domain, []byte("x"))
			verified := g.Verify(ids[0], domain, []byte("x"), got)
			if rightWord.MatchString(domain) {
				count++
				if err != nil || verified != nil || !bytes.Equal(got, tagByHand(key, domain, []byte("x"))) {
					t.Fatalf("%q: %x, %v, %v", domain, got, err, verified)
				}
			} else if !errors.Is(err, api.ErrText) || !errors.Is(verified, api.ErrText) || got != nil {
				t.Fatalf("%q: %x, %v, %v", domain, got, err, verified)
			}
		}
	}
	if g.Signed() != count {
		t.Errorf("%d are signed, wanted %d", g.Signed(), count)
	}
}

// P10.1: messages of each length about those at which something changes.
func TestMessageLengths(t *testing.T) {
	key := made(t, draw0)
	g, ids := ringOf(t, key)
	for i, n := range []int{0, 1, 2, 31, 32, 33, 55, 56, 63, 64, 65, 127, 128, 255, 256, 257, 65534, 65535, 65536} {
		message := run(n, n)
		got, err := g.Sign(ids[0], "a", message)
		if err != nil || !bytes.Equal(got, tagByHand(key, "a", message)) || g.Signed() != i+1 {
			t.Errorf("%d bytes: %x, %v; %d are signed", n, got, err, g.Signed())
		}
		if err := g.Verify(ids[0], "a", message, got); err != nil {
			t.Errorf("%d bytes: %v", n, err)
		}
	}
}

// P10.2: only the key's signature of that message counts: not one of which a bit is another, nor a part of it, nor more.
func TestOnlyTheSignatureCounts(t *testing.T) {
	g, ids := ringOf(t, made(t, draw0))
	right, _ := g.Sign(ids[0], "a", []byte("m"))
	wrong := [][]byte{nil, {}, {0}, make([]byte, 32), bytes.Repeat([]byte{255}, 32), append(bytes.Clone(right), 0), append(bytes.Clone(right), right...), []byte(hex.EncodeToString(right)), append([]byte{0}, right...)}
	for i := range right {
		wrong = append(wrong, right[:i], right[i+1:])
		for bit := range 8 {
			other := bytes.Clone(right)
			other[i] ^= 1 << bit
			wrong = append(wrong, other)
		}
	}
	for _, signature := range wrong {
		if err := g.Verify(ids[0], "a", []byte("m"), signature); !errors.Is(err, api.ErrSign) {
			t.Errorf("%x: %v", signature, err)
		}
	}
	if err := g.Verify(ids[0], "a", []byte("m"), right); err != nil || g.Signed() != 1 {
		t.Errorf("%v; %d are signed", err, g.Signed())
	}
}

// P10.2: what a ring hasn't signed counts for nothing there, even if it is the key's signature: each ring has a book of its own.
func TestOnlyWhatItSigned(t *testing.T) {
	key := made(t, draw0)
	signer, ids := ringOf(t, key)
	other, _ := ringOf(t, key)
	signature, _ := signer.Sign(ids[0], "a", []byte("m"))
	if err := other.Verify(ids[0], "a", []byte("m"), signature); !errors.Is(err, api.ErrSign) || other.Signed() != 0 {
		t.Errorf("signed by another ring: %v; %d are signed", err, other.Signed())
	}
	reckoned := tagByHand(key, "a", []byte("n"))
	for range 2 { // asking doesn't sign
		if err := signer.Verify(ids[0], "a", []byte("n"), reckoned); !errors.Is(err, api.ErrSign) || signer.Signed() != 1 {
			t.Errorf("reckoned alone: %v; %d are signed", err, signer.Signed())
		}
	}
	if _, err := signer.Sign(ids[0], "a", []byte("n")); err != nil {
		t.Fatal(err)
	}
	if err := signer.Verify(ids[0], "a", []byte("n"), reckoned); err != nil || signer.Signed() != 2 {
		t.Errorf("signed: %v; %d are signed", err, signer.Signed())
	}
}

// P10.2: what was signed counts by that key, with that domain, as that message, and as nothing that looks like it, though it too has its signature.
func TestNothingElseCounts(t *testing.T) {
	list := [][]byte{made(t, draw0), made(t, draw1), make([]byte, 32)}
	domains := []string{"a", "ab", "abc", "b", "a-", "id", "key", "cert", "pass"}
	messages := []string{"", "a", "b", "c", "bc", "abc", "\x00", "\x00a", "a\x00", "id", "key", "\x02ab\x01", "\xff", "\xef\xbf\xbd", string(list[1])}
	var rows []row
	for _, key := range list {
		for _, domain := range domains {
			for _, message := range messages {
				rows = append(rows, row{key, domain, message})
			}
		}
	}
	for i, signed := range rows {
		if i%7 != 0 {
			continue
		}
		g, _ := ringOf(t, list...)
		got, err := g.Sign(numberByHand(signed.key), signed.domain, []byte(signed.message))
		if err != nil {
			t.Fatal(err)
		}
		for _, r := range rows {
			id := numberByHand(r.key)
			right := tagByHand(r.key, r.domain, []byte(r.message))
			own, ofIt := g.Verify(id, r.domain, []byte(r.message), right), g.Verify(id, r.domain, []byte(r.message), got)
			if r.is(signed) {
				if own != nil || ofIt != nil {
					t.Errorf("%q: %v, %v", r, own, ofIt)
				}
			} else if !errors.Is(own, api.ErrSign) || !errors.Is(ofIt, api.ErrSign) {
				t.Errorf("%q signed, %q: %v, %v", signed, r, own, ofIt)
			}
		}
	}
}

// P10.1: Signed counts each key, domain and message once, and takes those apart that look alike.
func TestSignedCountsOnce(t *testing.T) {
	g, ids := ringOf(t, made(t, draw0), made(t, draw1))
	count := 0
	for _, id := range ids {
		for _, domain := range []string{"a", "ab", "abc", "b", "bc", "c"} {
			for _, message := range []string{"", "a", "b", "c", "ab", "bc", "abc", "\x00", "\x00\x00"} {
				for range 3 {
					if _, err := g.Sign(id, domain, []byte(message)); err != nil {
						t.Fatal(err)
					}
				}
				if count++; g.Signed() != count {
					t.Fatalf("%s, %q and %q: %d, wanted %d", id, domain, message, g.Signed(), count)
				}
			}
		}
	}
	before, _ := g.Sign(ids[0], "a", nil)
	after, _ := g.Sign(ids[0], "a", []byte{})
	if g.Signed() != count || !bytes.Equal(before, after) {
		t.Errorf("no bytes and nil aren't the same: %d, wanted %d", g.Signed(), count)
	}
}

// P10.1: a copy has the keys and the book, and goes on apart, both ways about.
func TestCopyGoesOnApart(t *testing.T) {
	key0, key1 := made(t, draw0), made(t, draw1)
	g, ids := ringOf(t, key0)
	if _, err := g.Sign(ids[0], "a", []byte("before")); err != nil {
		t.Fatal(err)
	}
	c := g.Copy()
	counts := func(g *keys.Ring, key []byte, message string) bool {
		err := g.Verify(numberByHand(key), "a", []byte(message), tagByHand(key, "a", []byte(message)))
		if err != nil && !errors.Is(err, api.ErrSign) && !errors.Is(err, api.ErrKey) {
			t.Error(err)
		}
		return err == nil
	}
	if !c.Has(ids[0]) || c.Signed() != 1 || !counts(c, key0, "before") {
		t.Errorf("it hasn't what it is a copy of: %v, %d, %v", c.Has(ids[0]), c.Signed(), counts(c, key0, "before"))
	}
	c.Sign(ids[0], "a", []byte("by the copy"))
	g.Sign(ids[0], "a", []byte("by the first"))
	g.Sign(ids[0], "a", []byte("by the first again"))
	id, _ := c.Add(key1)
	if g.Has(id) || !c.Has(id) || g.Signed() != 3 || c.Signed() != 2 {
		t.Errorf("%v, %v, %d, %d", g.Has(id), c.Has(id), g.Signed(), c.Signed())
	}
	if !counts(c, key0, "by the copy") || counts(g, key0, "by the copy") || counts(c, key0, "by the first") || !counts(g, key0, "by the first") {
		t.Error("what one of both signs counts for the other one")
	}
	g.Add(key1)
	c.Sign(id, "a", []byte("by the other key"))
	if counts(g, key1, "by the other key") || !counts(c, key1, "by the other key") || !counts(c.Copy().Copy(), key1, "by the other key") {
		t.Error("what the copy signs by the other key")
	}
	if none := keys.New().Copy(); none.Signed() != 0 || none.Has("") || none.Has(ids[0]) {
		t.Error("a copy of an empty ring has something")
	}
}

// P10.1: a ring that New hasn't made, and copies of an empty one, are rings without keys, too.
func TestEmptyRings(t *testing.T) {
	for what, g := range map[string]*keys.Ring{"new": keys.New(), "the zero value": {}, "a copy": keys.New().Copy(), "a copy of the zero value": new(keys.Ring).Copy()} {
		key := made(t, draw0)
		id := numberByHand(key)
		if _, err := g.Sign(id, "a", nil); g.Has(id) || g.Signed() != 0 || !errors.Is(err, api.ErrKey) || !errors.Is(g.Verify(id, "a", nil, nil), api.ErrKey) {
			t.Errorf("%s: it isn't empty: %v", what, err)
		}
		if got, err := g.Add(key); err != nil || got != id || !g.Has(id) {
			t.Errorf("%s: %s, %v", what, got, err)
		}
		signature, err := g.Sign(id, "a", nil)
		if err != nil || g.Verify(id, "a", nil, signature) != nil || g.Signed() != 1 {
			t.Errorf("%s: %x, %v; %d are signed", what, signature, err, g.Signed())
		}
	}
	if keys.New() == keys.New() {
		t.Error("two rings are the same one")
	}
}

// The rules for every call: what is given isn't changed, nor the room behind it, and writing over it, or over what is answered, changes nothing else.
func TestNothingIsShared(t *testing.T) {
	room := run(1, 200)
	key, message := room[:32], room[40:60]
	g := keys.New()
	id, _ := g.Add(key)
	one, _ := g.Sign(id, "a", message)
	other, _ := g.Sign(id, "a", message)
	signature := append(make([]byte, 0, 64), one...)
	if err := g.Verify(id, "a", message, signature); err != nil {
		t.Fatal(err)
	}
	if !bytes.Equal(room, run(1, 200)) || !bytes.Equal(signature[:64], append(bytes.Clone(one), make([]byte, 32)...)) {
		t.Fatal("something that was given is changed")
	}
	c := g.Copy()
	clear(room)
	for i := range one[:cap(one)] {
		one[:cap(one)][i] = 0xee
	}
	right := tagByHand(run(1, 32), "a", run(41, 20))
	for _, g := range []*keys.Ring{g, c} {
		if !g.Has(id) || g.Has(numberByHand(make([]byte, 32))) || g.Signed() != 1 {
			t.Error("a key that was written over is another one in the ring")
		}
		if err := g.Verify(id, "a", run(41, 20), right); err != nil || !bytes.Equal(other, right) {
			t.Errorf("%x, %v", other, err)
		}
		if err := g.Verify(id, "a", message, tagByHand(run(1, 32), "a", message)); !errors.Is(err, api.ErrSign) {
			t.Errorf("a message that was written over counts: %v", err)
		}
		if again, err := g.Sign(id, "a", run(41, 20)); err != nil || !bytes.Equal(again, right) || g.Signed() != 1 {
			t.Errorf("%x, %v", again, err)
		}
	}
}
