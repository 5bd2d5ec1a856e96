package sha_test

import (
	"bytes"
	"crypto/sha256"
	"encoding/hex"
	"slices"
	"strings"
	"testing"

	"bulla/api"
	"bulla/sha"
)

// message is n bytes that don't repeat at a block's size.
func message(n int) []byte {
	b := make([]byte, n)
	for i := range b {
		b[i] = byte(i*7 + i/251)
	}
	return b
}

// P1.1: digests that the standard's own examples tell.
func TestKnownDigests(t *testing.T) {
	known := []struct{ text, figures string }{
		{"", "e3b0c44298fc1c149afbf4c8996fb92427ae41e4649b934ca495991b7852b855"},
		{"abc", "ba7816bf8f01cfea414140de5dae2223b00361a396177a9cb410ff61f20015ad"},
		{"abcdbcdecdefdefgefghfghighijhijkijkljklmklmnlmnomnopnopq", "248d6a61d20638b8e5c026930c3e6039a33ce45964ff2167f6ecedd419db06c1"},
		{"abcdefghbcdefghicdefghijdefghijkefghijklfghijklmghijklmnhijklmnoijklmnopjklmnopqklmnopqrlmnopqrsmnopqrstnopqrstu", "cf5b16a778af8380036ce59e7b0492370b249b11e8f07a51afac45037afee9d1"},
		{strings.Repeat("a", 1000000), "cdc76e5c9914fb9281a1c7e284d73e67f1809a48a497200e046d39ccc7112cd0"},
	}
	for _, k := range known {
		if got := sha.Text(sha.Sum([]byte(k.text))); got != k.figures {
			t.Errorf("of %d bytes: %s, wanted %s", len(k.text), got, k.figures)
		}
	}
}

// P1.1: each length up to some blocks, so each place at which a message can end in a block.
func TestEveryLength(t *testing.T) {
	for n := range 5*64 + 2 {
		b := message(n)
		if sha.Sum(b) != sha256.Sum256(b) {
			t.Errorf("of %d bytes: another digest", n)
		}
	}
}

// P1.1: a length of which more than two bytes of the size that is appended count.
func TestLong(t *testing.T) {
	for _, n := range []int{1<<16 - 1, 1 << 16, 1<<21 - 1, 1 << 21, 1<<21 + 55} {
		b := message(n)
		if sha.Sum(b) != sha256.Sum256(b) {
			t.Errorf("of %d bytes: another digest", n)
		}
	}
}

// P1.1: what counts is the bytes, not how they are cut into parts.
func TestPartsAreOneBehindTheOther(t *testing.T) {
	for _, n := range []int{0, 1, 3, 55, 56, 63, 64, 65, 119, 120, 127, 128, 129, 200} {
		b := message(n)
		want := sha256.Sum256(b)
		for i := 0; i <= n; i++ {
			if sha.Sum(b[:i], b[i:]) != want {
				t.Fatalf("%d bytes, parted at %d: another digest", n, i)
			}
			h := sha.New()
			h.Write(b[:i])
			h.Write(b[i:])
			if h.Sum() != want || h.Len() != n {
				t.Fatalf("%d bytes, written with a break at %d: another digest or length", n, i)
			}
		}
		if byByte(b).Sum() != want {
			t.Fatalf("%d bytes, one by one: another digest", n)
		}
	}
}

func byByte(b []byte) *sha.Hash {
	h := sha.New()
	for i := range b {
		h.Write(b[i : i+1])
	}
	return h
}

// P1.1: no parts, and parts without bytes, are no bytes.
func TestEmptyParts(t *testing.T) {
	none, abc := sha256.Sum256(nil), sha256.Sum256([]byte("abc"))
	if sha.Sum() != none || sha.Sum(nil) != none || sha.Sum([]byte{}, nil, []byte{}) != none {
		t.Error("of no bytes: another digest")
	}
	if sha.Sum(nil, []byte("a"), []byte{}, []byte("bc"), nil) != abc {
		t.Error("parts without bytes count")
	}
	h := sha.New()
	if h.Sum() != none || h.Len() != 0 {
		t.Error("a new hash has bytes")
	}
	h.Write(nil)
	h.Write([]byte{})
	if h.Sum() != none || h.Len() != 0 {
		t.Error("what has no bytes counts")
	}
}

// P1.1: a hash that nobody has made by New has no bytes either.
func TestZeroHash(t *testing.T) {
	var h sha.Hash
	if h.Sum() != sha256.Sum256(nil) || h.Len() != 0 || h.Copy().Sum() != sha256.Sum256(nil) {
		t.Error("it isn't a hash of no bytes")
	}
	b := message(100)
	h.Write(b)
	if h.Sum() != sha256.Sum256(b) || h.Len() != 100 {
		t.Error("it doesn't go on as one")
	}
}

// P1.1: Sum goes on as if it hadn't been asked, wherever it is asked.
func TestSumDoesNotDisturb(t *testing.T) {
	b := message(200)
	h := sha.New()
	for i := range b {
		want := sha256.Sum256(b[:i])
		if h.Sum() != want || h.Sum() != want {
			t.Fatalf("of %d bytes: another digest", i)
		}
		if h.Len() != i {
			t.Fatalf("%d bytes, wanted %d", h.Len(), i)
		}
		h.Write(b[i : i+1])
	}
	if h.Sum() != sha256.Sum256(b) {
		t.Error("another digest in the end")
	}
}

// P1.1: a copy and the one it was made of go on apart.
func TestCopy(t *testing.T) {
	b, more, others := message(300), []byte("more"), []byte("what is not the same")
	for n := range 140 {
		h := sha.New()
		h.Write(b[:n])
		c := h.Copy()
		if c == h || c.Len() != n || c.Sum() != sha256.Sum256(b[:n]) {
			t.Fatalf("the copy of %d bytes isn't one", n)
		}
		h.Write(more)
		if c.Len() != n || c.Sum() != sha256.Sum256(b[:n]) {
			t.Fatalf("at %d bytes the copy goes on with the first one", n)
		}
		c.Write(others)
		if h.Len() != n+len(more) || h.Sum() != sha256.Sum256(slices.Concat(b[:n], more)) {
			t.Fatalf("at %d bytes the first one goes on with the copy", n)
		}
		if c.Sum() != sha256.Sum256(slices.Concat(b[:n], others)) {
			t.Fatalf("at %d bytes the copy doesn't go on", n)
		}
	}
}

// P1.1: two hashes have nothing in common.
func TestHashesAreApart(t *testing.T) {
	a, b := sha.New(), sha.New()
	a.Write([]byte("a"))
	if b.Len() != 0 || b.Sum() != sha256.Sum256(nil) || sha.New().Sum() != sha256.Sum256(nil) {
		t.Error("bytes of one came into another one")
	}
}

// P1.1, and the rules for every call: what is written isn't kept, nor changed, nor the room behind it.
func TestBytesAreNeitherKeptNorChanged(t *testing.T) {
	for _, n := range []int{1, 20, 64, 100} {
		b := message(n + 80)
		given := b[:n]
		h := sha.New()
		h.Write(given)
		sha.Sum(given, given)
		h.Sum()
		if !bytes.Equal(b, message(n+80)) {
			t.Fatalf("%d bytes, or the room behind them, were changed", n)
		}
		clear(b)
		if h.Sum() != sha256.Sum256(message(n)) {
			t.Fatalf("%d bytes were kept", n)
		}
	}
}

// P1.1: all figures of all bytes, the high half first, at each place.
func TestText(t *testing.T) {
	for i := range 256 {
		var d [api.Digest]byte
		for j := range d {
			d[j] = byte(i + 37*j)
		}
		if got := sha.Text(d); got != hex.EncodeToString(d[:]) {
			t.Errorf("%s, wanted %x", got, d)
		}
	}
	if got := sha.Text([api.Digest]byte{0: 0x1f, 31: 0xa0}); got != "1f"+strings.Repeat("0", 60)+"a0" {
		t.Errorf("%s", got)
	}
}

func BenchmarkSum(b *testing.B) {
	m := message(8192)
	b.SetBytes(int64(len(m)))
	for b.Loop() {
		sha.Sum(m)
	}
}

// FuzzSum holds whatever parts against the library's SHA-256.
func FuzzSum(f *testing.F) {
	f.Add([]byte("ab"), []byte("c"))
	f.Add(message(55), message(64))
	f.Fuzz(func(t *testing.T, a, b []byte) {
		if sha.Sum(a, b) != sha256.Sum256(slices.Concat(a, b)) {
			t.Errorf("of %x and %x: another digest", a, b)
		}
	})
}
