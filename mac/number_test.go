package mac_test

import (
	"bytes"
	"encoding/hex"
	"errors"
	"strings"
	"testing"

	"bulla/api"
	"bulla/mac"
)

// P2.1: a key's number is the first figures of HMAC-SHA256 of 02 69 64 00, with keys of any length.
func TestID(t *testing.T) {
	for n := range 130 {
		key := message(n)
		d := library(key, []byte("\x02id\x00"))
		if got := mac.ID(key); got != hex.EncodeToString(d[:api.KeyID]) {
			t.Errorf("a key of %d bytes: %s", n, got)
		}
	}
	if mac.ID(nil) != mac.ID([]byte{}) || len(mac.ID(nil)) != 32 {
		t.Error("a key without bytes has no number of its own")
	}
}

// P2.1: each byte at each place has its figures, and the figures are those bytes.
func TestBytesAndNumber(t *testing.T) {
	for i := range 256 {
		b := make([]byte, api.KeyID)
		for j := range b {
			b[j] = byte(i + 37*j)
		}
		id, err := mac.Number(b)
		if err != nil || id != hex.EncodeToString(b) {
			t.Errorf("%x: %s, %v", b, id, err)
		}
		back, err := mac.Bytes(hex.EncodeToString(b))
		if err != nil || !bytes.Equal(back, b) {
			t.Errorf("%x: %x, %v", b, back, err)
		}
	}
	if b, err := mac.Bytes("1f0000000000000000000000000000a0"); err != nil || b[0] != 0x1f || b[15] != 0xa0 || len(b) != 16 {
		t.Errorf("%x, %v", b, err)
	}
}

// P2.1: a key's number is what Bytes takes.
func TestBytesOfID(t *testing.T) {
	id := mac.ID(message(32))
	b, err := mac.Bytes(id)
	if err != nil {
		t.Fatal(err)
	}
	if back, err := mac.Number(b); err != nil || back != id {
		t.Errorf("%s, %v, wanted %s", back, err, id)
	}
}

// P2.1: other lengths than 32 figures are refused.
func TestBytesOfOtherLengths(t *testing.T) {
	for n := range 100 {
		if n == 32 {
			continue
		}
		if b, err := mac.Bytes(strings.Repeat("0", n)); !errors.Is(err, api.ErrForm) || b != nil {
			t.Errorf("%d figures: %x, %v", n, b, err)
		}
	}
	if b, err := mac.Bytes(strings.Repeat("\u00e4", 32)); !errors.Is(err, api.ErrForm) || b != nil {
		t.Errorf("32 runes: %x, %v", b, err)
	}
}

// P2.1: whatever byte is no figure is refused, at each place; great letters are none.
func TestBytesOfOtherFigures(t *testing.T) {
	for i := range 32 {
		for c := range 256 {
			text := []byte(strings.Repeat("7", 32))
			text[i] = byte(c)
			b, err := mac.Bytes(string(text))
			if strings.IndexByte("0123456789abcdef", byte(c)) >= 0 {
				if want, _ := hex.DecodeString(string(text)); err != nil || !bytes.Equal(b, want) {
					t.Fatalf("%q: %x, %v", text, b, err)
				}
			} else if !errors.Is(err, api.ErrForm) || b != nil {
				t.Fatalf("%q: %x, %v, wanted %v", text, b, err, api.ErrForm)
			}
		}
	}
}

// P2.1: other lengths than KeyID bytes are refused.
func TestNumberOfOtherLengths(t *testing.T) {
	for n := range 70 {
		if n == api.KeyID {
			continue
		}
		if id, err := mac.Number(message(n)); !errors.Is(err, api.ErrForm) || id != "" {
			t.Errorf("%d bytes: %q, %v", n, id, err)
		}
	}
	if id, err := mac.Number(nil); !errors.Is(err, api.ErrForm) || id != "" {
		t.Errorf("nil: %q, %v", id, err)
	}
}

// The rules for every call: what is answered is the caller's.
func TestBytesAreNew(t *testing.T) {
	const id = "000102030405060708090a0b0c0d0e0f"
	one, _ := mac.Bytes(id)
	clear(one)
	if other, _ := mac.Bytes(id); hex.EncodeToString(other) != id {
		t.Error("writing over an answer changed another one")
	}
	b := message(api.KeyID)
	want := hex.EncodeToString(b)
	got, _ := mac.Number(b)
	clear(b)
	if got != want {
		t.Error("writing over the bytes changed their number")
	}
}
