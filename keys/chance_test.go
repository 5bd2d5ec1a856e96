package keys

import (
	"bytes"
	"errors"
	"testing"

	"bulla/api"
	"bulla/mac"
)

// No two keys of one number are known. So these tests lay a key into a ring by hand, under the number of another one: to the ring it is a key of that number.

// laid is a ring that has a key under a number.
func laid(id string, key [api.Digest]byte) *Ring {
	return &Ring{keys: map[string][api.Digest]byte{id: key}}
}

// filled is a key of a byte alone.
func filled(b byte) [api.Digest]byte {
	return [api.Digest]byte(bytes.Repeat([]byte{b}, api.Digest))
}

// tag is a key's signature, whether or not it was signed.
func tag(t *testing.T, key [api.Digest]byte, domain, message string) []byte {
	t.Helper()
	s, err := mac.Tagged(key[:], domain, []byte(message))
	if err != nil {
		t.Fatal(err)
	}
	return s[:]
}

// holdCounts holds whether a signature counts.
func holdCounts(t *testing.T, g *Ring, id, domain, message string, signature []byte, counts bool) {
	t.Helper()
	err := g.Verify(id, domain, []byte(message), signature)
	if counts && err != nil || !counts && !errors.Is(err, api.ErrSign) {
		t.Errorf("%s, of %s: %v, but whether it counts is %v", domain, message, err, counts)
	}
}

// P10.2: a key that comes behind another one of its number doesn't put it out of the ring, and what it has not signed doesn't count, however often it comes.
func TestAddOfTheSameNumber(t *testing.T) {
	first, second := filled(1), filled(2)
	id := mac.ID(second[:])
	for _, signed := range []bool{false, true} {
		g := laid(id, first)
		if signed {
			if s, err := g.Sign(id, "a", []byte("m")); err != nil || !bytes.Equal(s, tag(t, first, "a", "m")) {
				t.Fatalf("%x, %v", s, err)
			}
		}
		c := g.Copy()
		for _, ring := range []*Ring{g, c, c.Copy()} {
			for range 3 {
				if got, err := ring.Add(second[:]); err != nil || got != id || !ring.Has(id) {
					t.Fatalf("%s, %v, wanted %s", got, err, id)
				}
				holdCounts(t, ring, id, "a", "m", tag(t, first, "a", "m"), signed)
				holdCounts(t, ring, id, "a", "m", tag(t, second, "a", "m"), false)
			}
			s, err := ring.Sign(id, "a", []byte("later"))
			if err != nil || !bytes.Equal(s, tag(t, first, "a", "later")) {
				t.Errorf("signed by another key than the one that was there: %x, %v", s, err)
			}
			holdCounts(t, ring, id, "a", "later", s, true)
			holdCounts(t, ring, id, "a", "later", tag(t, second, "a", "later"), false)
			if want := map[bool]int{false: 1, true: 2}[signed]; ring.Signed() != want {
				t.Errorf("%d are signed, wanted %d", ring.Signed(), want)
			}
		}
	}
}

// P10.2: the book has which key it was, not its number alone.
func TestBookHasTheKey(t *testing.T) {
	first, second := filled(1), filled(2)
	id := mac.ID(first[:])
	g := laid(id, first)
	if _, err := g.Sign(id, "a", []byte("m")); err != nil {
		t.Fatal(err)
	}
	other := &Ring{keys: map[string][api.Digest]byte{id: second}, book: g.book}
	holdCounts(t, other, id, "a", "m", tag(t, second, "a", "m"), false)
	holdCounts(t, other, id, "a", "m", tag(t, first, "a", "m"), false)
	if _, err := other.Sign(id, "a", []byte("m")); err != nil || other.Signed() != 2 {
		t.Errorf("%v; %d are signed", err, other.Signed())
	}
	holdCounts(t, other, id, "a", "m", tag(t, second, "a", "m"), true)
	holdCounts(t, g, id, "a", "m", tag(t, first, "a", "m"), true)
}
