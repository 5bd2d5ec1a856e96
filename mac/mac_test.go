package mac_test

import (
	"bytes"
	"crypto/hmac"
	"crypto/sha256"
	"encoding/hex"
	"errors"
	"slices"
	"strings"
	"testing"
	"time"

	"bulla/api"
	"bulla/mac"
)

// message is n bytes that don't repeat at a block's size.
func message(n int) []byte {
	b := make([]byte, n)
	for i := range b {
		b[i] = byte(i*7 + i/251 + 1)
	}
	return b
}

// library is what the library's HMAC-SHA256 makes of parts.
func library(key []byte, parts ...[]byte) [api.Digest]byte {
	h := hmac.New(sha256.New, key)
	for _, p := range parts {
		h.Write(p)
	}
	return [api.Digest]byte(h.Sum(nil))
}

// P2.1: the examples of RFC 4231, of short and long keys and messages.
func TestKnownSums(t *testing.T) {
	known := []struct{ key, text, figures string }{
		{strings.Repeat("\x0b", 20), "Hi There", "b0344c61d8db38535ca8afceaf0bf12b881dc200c9833da726e9376c2e32cff7"},
		{"Jefe", "what do ya want for nothing?", "5bdcc146bf60754e6a042426089575c75a003f089d2739839dec58b964ec3843"},
		{strings.Repeat("\xaa", 20), strings.Repeat("\xdd", 50), "773ea91e36800e46854db8ebd09181a72959098b3ef8c122d9635514ced565fe"},
		{strings.Repeat("\xaa", 131), "Test Using Larger Than Block-Size Key - Hash Key First", "60e431591ee0b67f0d8a26aacbf5b77f8e0bc6213728c5140546040f0ee37f54"},
		{"", "", "b613679a0814d9ec772f95d778c35fc5ff1697c493715653c6c712144292c5ad"},
	}
	for _, k := range known {
		d := mac.Sum([]byte(k.key), []byte(k.text))
		if got := hex.EncodeToString(d[:]); got != k.figures {
			t.Errorf("%q with %q: %s, wanted %s", k.text, k.key, got, k.figures)
		}
	}
}

// P2.1: each length of a key up to some blocks, so those about a block's size, too.
func TestEveryKeyLength(t *testing.T) {
	for n := range 3*64 + 2 {
		for _, m := range []int{0, 1, 55, 64, 200} {
			key, b := message(n), message(m)
			if mac.Sum(key, b) != library(key, b) {
				t.Errorf("of %d bytes with a key of %d: another digest", m, n)
			}
		}
	}
	key := message(1 << 17)
	if mac.Sum(key, []byte("abc")) != library(key, []byte("abc")) {
		t.Error("with a long key: another digest")
	}
}

// P2.1: what counts is the bytes, not how they are cut into parts; no parts, and parts without bytes, are no bytes.
func TestSumOfParts(t *testing.T) {
	key, b := message(40), message(150)
	want := library(key, b)
	for i := range b {
		if mac.Sum(key, b[:i], b[i:]) != want || mac.Sum(key, nil, b[:i], []byte{}, b[i:], nil) != want {
			t.Errorf("parted at %d: another digest", i)
		}
	}
	if mac.Sum(key, slices.Collect(slices.Chunk(b, 1))...) != want {
		t.Error("of many parts: another digest")
	}
	none := library(key)
	if mac.Sum(key) != none || mac.Sum(key, nil) != none || mac.Sum(key, []byte{}, nil) != none {
		t.Error("of no bytes: another digest")
	}
	if mac.Sum(nil, b) != library(nil, b) || mac.Sum([]byte{}, b) != library(nil, b) {
		t.Error("with a key without bytes: another digest")
	}
}

// P2.1: Tagged is Sum of the framed text.
func TestTagged(t *testing.T) {
	for _, n := range []int{0, 1, 32, 64, 65} {
		key := message(n)
		for _, parts := range [][][]byte{nil, {nil}, {message(3)}, {message(1), {}, message(70)}} {
			got, err := mac.Tagged(key, "cert", parts...)
			if err != nil || got != library(key, byHand("cert", parts...)) {
				t.Errorf("%d parts with a key of %d bytes: %x, %v", len(parts), n, got, err)
			}
		}
	}
}

// P2.1: Tagged has Frame's errors, and answers zero values beside them.
func TestTaggedErrors(t *testing.T) {
	for _, w := range wrong() {
		got, err := mac.Tagged(message(32), w.word, w.parts...)
		if !errors.Is(err, w.err) || got != [api.Digest]byte{} {
			t.Errorf("%s: %x, %v, wanted %v", w.what, got, err, w.err)
		}
	}
}

// P2.1: only the same bytes are the same, wherever and in whichever bit others differ.
func TestSame(t *testing.T) {
	for n := range 70 {
		a := message(n)
		if !mac.Same(a, message(n)) || !mac.Same(a, a) {
			t.Fatalf("%d bytes aren't the same as themselves", n)
		}
		for i := range a {
			for bit := range 8 {
				b := message(n)
				b[i] ^= 1 << bit
				if mac.Same(a, b) || mac.Same(b, a) {
					t.Fatalf("%d bytes of which one differs, at %d by bit %d, are the same", n, i, bit)
				}
			}
			if mac.Same(a, a[:i]) || mac.Same(a[:i], a) || mac.Same(a, a[i+1:]) {
				t.Fatalf("%d bytes are the same as fewer", n)
			}
		}
	}
	if !mac.Same(nil, nil) || !mac.Same(nil, []byte{}) || !mac.Same([]byte{}, nil) {
		t.Error("no bytes aren't the same as no bytes")
	}
	if mac.Same(nil, []byte{0}) || mac.Same([]byte{0}, []byte{}) || mac.Same([]byte{0}, []byte{0, 0}) {
		t.Error("a nought is the same as nothing")
	}
}

// P2.1: differences don't outweigh each other, nor does the last one hide those ahead of it.
func TestSameOfManyDifferences(t *testing.T) {
	if mac.Same([]byte{1, 1}, []byte{0, 0}) || mac.Same([]byte{1, 2, 3}, []byte{3, 2, 1}) || mac.Same([]byte{128, 128}, []byte{0, 0}) {
		t.Error("differences outweigh each other")
	}
	a, b := message(512), message(512)
	for i := range b {
		b[i]++
	}
	if mac.Same(a, b) {
		t.Error("bytes that all differ are the same")
	}
}

// P2.1: all bytes are looked at, wherever the first one differs. The least of many times is held against the other,
// so that what else the machine does hardly counts; a call that stops at the first byte takes a thousandth.
func TestSameLooksAtAllBytes(t *testing.T) {
	a, same, first := message(1<<20), message(1<<20), message(1<<20)
	first[0]++
	whole, early := time.Hour, time.Hour
	for range 20 {
		whole = min(whole, took(a, same))
		early = min(early, took(a, first))
	}
	if early < whole/16 {
		t.Errorf("%v, if the first byte differs, and else %v", early, whole)
	}
}

func took(a, b []byte) time.Duration {
	start := time.Now()
	mac.Same(a, b)
	return time.Since(start)
}

// The rules for every call: nothing that is given is changed, not the room behind it either.
func TestNothingGivenIsChanged(t *testing.T) {
	for _, n := range []int{1, 16, 32, 63, 64, 65, 100} {
		keyRoom, aRoom, bRoom := message(n+90), message(n+91), message(n+92)
		key, a, b := keyRoom[:n], aRoom[:n], bRoom[:n]
		partsRoom := [][]byte{a, b, key, key}
		parts := partsRoom[:2]
		mac.Sum(key, parts...)
		mac.Frame("word", parts...)
		mac.Tagged(key, "word", parts...)
		mac.Same(a, b)
		mac.ID(key)
		mac.Number(a)
		if !bytes.Equal(keyRoom, message(n+90)) || !bytes.Equal(aRoom, message(n+91)) || !bytes.Equal(bRoom, message(n+92)) {
			t.Fatalf("%d bytes, or the room behind them, were changed", n)
		}
		if &partsRoom[0][0] != &a[0] || &partsRoom[1][0] != &b[0] || &partsRoom[2][0] != &key[0] || &partsRoom[3][0] != &key[0] {
			t.Fatalf("the list of parts, or the room behind it, was changed")
		}
	}
}

func BenchmarkSum(b *testing.B) {
	key, m := message(32), message(1024)
	b.SetBytes(int64(len(m)))
	for b.Loop() {
		mac.Sum(key, m)
	}
}

// FuzzSum holds whatever key and parts against the library's HMAC-SHA256.
func FuzzSum(f *testing.F) {
	f.Add([]byte("key"), []byte("ab"), []byte("c"))
	f.Add(message(64), message(55), message(64))
	f.Add(message(65), []byte{}, message(1))
	f.Fuzz(func(t *testing.T, key, a, b []byte) {
		if mac.Sum(key, a, b) != library(key, slices.Concat(a, b)) {
			t.Errorf("of %x and %x with %x: another digest", a, b, key)
		}
	})
}
