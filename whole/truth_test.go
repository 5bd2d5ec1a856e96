package whole_test

import (
	"bytes"
	"errors"
	"testing"

	"bulla/api"
	"bulla/whole"
)

// wantIsTrue is IsTrue as the chapter tells it.
func wantIsTrue(b []byte) (bool, error) {
	switch string(b) {
	case "":
		return false, api.ErrShort
	case "\xff":
		return true, nil
	case "\x00":
		return false, nil
	}
	return false, api.ErrForm
}

// holdIsTrue holds IsTrue against what the chapter tells; what tells a truth is that truth's body.
func holdIsTrue(t *testing.T, b []byte) {
	t.Helper()
	got, err := whole.IsTrue(b)
	want, wantErr := wantIsTrue(b)
	if !errors.Is(err, wantErr) || got != want {
		t.Fatalf("%x..: %v, %v, wanted %v, %v", start(b), got, err, want, wantErr)
	}
	if err == nil && !bytes.Equal(whole.Truth(got), b) {
		t.Fatalf("%x is %v, whose body is %x", b, got, whole.Truth(got))
	}
}

// P4.1: both truths' bodies.
func TestTruth(t *testing.T) {
	if got := whole.Truth(true); !bytes.Equal(got, []byte{255}) {
		t.Errorf("true: %x", got)
	}
	if got := whole.Truth(false); !bytes.Equal(got, []byte{0}) {
		t.Errorf("false: %x", got)
	}
}

// P4.1: all texts of up to two bytes, and longer ones.
func TestIsTrue(t *testing.T) {
	holdIsTrue(t, nil)
	for n := range 3 {
		each(n, allBytes(), func(b []byte) { holdIsTrue(t, b) })
	}
	for _, n := range []int{3, 8, 127, 255, 256, 257, 65536, 65537} {
		for _, c := range []byte{0, 1, 255} {
			holdIsTrue(t, bytes.Repeat([]byte{c}, n))
		}
	}
}

// The rules for every call: what is answered is the caller's, with the room behind it.
func TestTruthIsNew(t *testing.T) {
	for _, is := range []bool{true, false} {
		one, other := whole.Truth(is), whole.Truth(is)
		want := other[0]
		for i := range one[:cap(one)] {
			one[:cap(one)][i] = 0x55
		}
		if again := whole.Truth(is); other[0] != want || again[0] != want {
			t.Errorf("%v: writing over an answer changed another one", is)
		}
	}
}
