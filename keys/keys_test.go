package keys_test

import (
	"bytes"
	"encoding/hex"
	"errors"
	"strings"
	"testing"

	"bulla/api"
	"bulla/keys"
)

// run is n bytes that rise from a first one on.
func run(first, n int) []byte {
	b := make([]byte, n)
	for i := range b {
		b[i] = byte(first + i)
	}
	return b
}

// made is a key of a text of 16 to 64 bytes.
func made(t testing.TB, draw string) []byte {
	t.Helper()
	key, err := keys.Make([]byte(draw))
	if err != nil {
		t.Fatal(err)
	}
	return key
}

// ringOf is a ring of keys, and their numbers.
func ringOf(t testing.TB, list ...[]byte) (*keys.Ring, []string) {
	t.Helper()
	g := keys.New()
	var ids []string
	for _, key := range list {
		id, err := g.Add(key)
		if err != nil {
			t.Fatal(err)
		}
		ids = append(ids, id)
	}
	return g, ids
}

// same tells whether errors are the same one, or none both.
func same(got, want error) bool {
	if got == nil || want == nil {
		return got == nil && want == nil
	}
	return errors.Is(got, want)
}

// P10.1: keys and their numbers, that are written out.
func TestMakeExamples(t *testing.T) {
	for _, e := range []struct{ draw, key, id string }{
		{"0123456789abcdef", "c0bc55aeee205e17a1bff90a32490ff1375473bdecf7fe02efdb8dc4710b0f1d", "37e1c3aad0dae26e458269bd41e4799f"},
		{strings.Repeat("\x00", 16), "d8ed06ad43816bc7c3b5e8d77d494aad2251948b137f1c9b293bab02ee0ed15d", "407956468b8e2d153d02ca7d5dff6443"},
		{string(run(0, 64)), "ad1349668ed5752c83b6e5af77dcd89b2a6cd45697a4e0abf7c8e7f5fc16c7ba", "7b4a0bc7762b9caa4f6615f3eb4a87d1"},
		{"a draw of rather many bytes", "66a1f7e0ae093c2c6e5a8499ac27d87c5e700dacbf30d4bec574ac3ef73feb67", "953ced55e276463d84fb19571ae131fd"},
	} {
		key, err := keys.Make([]byte(e.draw))
		if got := hex.EncodeToString(key); err != nil || got != e.key {
			t.Errorf("%q: %s, %v, wanted %s", e.draw, got, err, e.key)
		}
		g := keys.New()
		if id, err := g.Add(key); err != nil || id != e.id || !g.Has(e.id) {
			t.Errorf("%q: its number is %s, %v, wanted %s", e.draw, id, err, e.id)
		}
	}
}

// P10.1: draws of each length, up to far more than may be, and of none.
func TestMakeLengths(t *testing.T) {
	for n := range 300 {
		for _, first := range []int{0, 1, 77, 255} {
			draw := run(first, n)
			want, wantErr := wantMake(draw)
			if got, err := keys.Make(draw); !same(err, wantErr) || !bytes.Equal(got, want) || err != nil && got != nil {
				t.Errorf("%d bytes: %x, %v, wanted %x, %v", n, got, err, want, wantErr)
			}
		}
	}
	if got, err := keys.Make(nil); !errors.Is(err, api.ErrShort) || got != nil {
		t.Errorf("no draw: %x, %v", got, err)
	}
	if got, err := keys.Make(make([]byte, 1<<20)); !errors.Is(err, api.ErrLong) || got != nil {
		t.Errorf("a draw of 2^20 bytes: %x, %v", got, err)
	}
}

// P10.1: each byte of a draw counts, and none of the room behind it; keys are the same each time, and new memory.
func TestMakeOfEachByte(t *testing.T) {
	for _, n := range []int{16, 17, 63, 64} {
		seen := map[string]bool{}
		room := run(0, 100)
		for i := range n + 1 {
			draw := run(1, n)
			if i < n {
				draw[i] ^= 0x80
			}
			key, _ := keys.Make(draw)
			again, _ := keys.Make(append(room[:0], draw...))
			if seen[string(key)] || len(key) != 32 || !bytes.Equal(key, again) {
				t.Fatalf("%d bytes, with another one at %d: %x, and again %x", n, i, key, again)
			}
			seen[string(key)] = true
			clear(key[:cap(key)])
			if third, _ := keys.Make(draw); !bytes.Equal(third, again) || !bytes.Equal(room[:n], draw) || !bytes.Equal(room[n:], run(n, 100-n)) {
				t.Fatalf("%d bytes: something was written over", n)
			}
		}
	}
}

// point is a value with more than one field.
type point struct{ x, y byte }

func (p point) bytes() ([]byte, error) {
	if p.x > p.y {
		return []byte{p.x, p.y}, api.ErrOrder
	}
	return []byte{p.x, p.y}, nil
}

// P10.1: Seal signs what the function tells of the value, as Sign does; Open verifies it, as Verify does.
func TestSealAndOpen(t *testing.T) {
	key := made(t, "0123456789abcdef")
	g, ids := ringOf(t, key)
	t1 := keys.Tagged[point]{Domain: "point", Value: point{1, 2}}
	want := tagByHand(key, "point", []byte{1, 2})
	if err := keys.Open(g, ids[0], t1, want, point.bytes); !errors.Is(err, api.ErrSign) {
		t.Errorf("not sealed as yet: %v", err)
	}
	got, err := keys.Seal(g, ids[0], t1, point.bytes)
	if err != nil || !bytes.Equal(got, want) || g.Signed() != 1 {
		t.Fatalf("%x, %v, wanted %x; %d are signed", got, err, want, g.Signed())
	}
	if err := g.Verify(ids[0], "point", []byte{1, 2}, got); err != nil {
		t.Errorf("what is sealed isn't signed: %v", err)
	}
	if err := keys.Open(g, ids[0], t1, got, point.bytes); err != nil {
		t.Errorf("what is sealed can't be opened: %v", err)
	}
	signed, _ := g.Sign(ids[0], "text", []byte("abc"))
	if err := keys.Open(g, ids[0], keys.Tagged[string]{Domain: "text", Value: "abc"}, signed, plain); err != nil {
		t.Errorf("what is signed can't be opened: %v", err)
	}
	for what, c := range map[string]struct {
		domain string
		value  point
	}{"another domain": {"text", point{1, 2}}, "another value": {"point", point{1, 3}}, "both": {"text", point{0, 2}}} {
		if err := keys.Open(g, ids[0], keys.Tagged[point]{Domain: c.domain, Value: c.value}, got, point.bytes); !errors.Is(err, api.ErrSign) {
			t.Errorf("%s: %v", what, err)
		}
	}
	if g.Signed() != 2 {
		t.Errorf("%d are signed", g.Signed())
	}
}

// P10.1: values of other types: what counts is what the function tells.
func TestSealOfOtherTypes(t *testing.T) {
	g, ids := ringOf(t, made(t, "0123456789abcdef"))
	number := func(n int) ([]byte, error) { return []byte{byte(n)}, nil }
	list := func(list []int) ([]byte, error) { return []byte{byte(len(list))}, nil }
	none := func(*int) ([]byte, error) { return nil, nil }
	one, err1 := keys.Seal(g, ids[0], keys.Tagged[int]{Domain: "n", Value: 3}, number)
	two, err2 := keys.Seal(g, ids[0], keys.Tagged[[]int]{Domain: "n", Value: []int{7, 8, 9}}, list)
	three, err3 := keys.Seal(g, ids[0], keys.Tagged[*int]{Domain: "n"}, none)
	if err := errors.Join(err1, err2, err3); err != nil || !bytes.Equal(one, two) || bytes.Equal(one, three) || g.Signed() != 2 {
		t.Errorf("%x, %x, %x, %v; %d are signed", one, two, three, err, g.Signed())
	}
	if err := keys.Open(g, ids[0], keys.Tagged[[]int]{Domain: "n", Value: []int{1, 1, 1}}, one, list); err != nil {
		t.Errorf("alike bytes: %v", err)
	}
	if err := keys.Open(g, ids[0], keys.Tagged[*int]{Domain: "n"}, three, none); err != nil {
		t.Errorf("no bytes: %v", err)
	}
}

// P10.1: Seal's and Open's errors: the function's one first, then those of Sign and Verify; with an error nothing is signed.
func TestSealErrors(t *testing.T) {
	own := errors.New("its own")
	good := func(n int) ([]byte, error) { return make([]byte, n), nil }
	bad := func(n int) ([]byte, error) { return make([]byte, n), own }
	g, ids := ringOf(t, made(t, "0123456789abcdef"))
	if _, err := keys.Seal(g, ids[0], keys.Tagged[int]{Domain: "a", Value: 5}, good); err != nil {
		t.Fatal(err)
	}
	right := tagByHand(made(t, "0123456789abcdef"), "a", make([]byte, 5))
	for _, c := range []struct {
		what, id, domain string
		n                int
		bytes            func(int) ([]byte, error)
		err              error
	}{
		{"the function's error", ids[0], "a", 5, bad, own},
		{"the function's error, and no key", "", "a", 5, bad, own},
		{"the function's error, and no domain", ids[0], "", 5, bad, own},
		{"the function's error, and too many bytes", ids[0], "a", 65537, bad, own},
		{"no function", ids[0], "a", 5, nil, api.ErrForm},
		{"no function, and no key", "", "a", 5, nil, api.ErrForm},
		{"no key", "", "a", 5, good, api.ErrKey},
		{"no key, no domain, and too many bytes", "", "", 65537, good, api.ErrKey},
		{"no domain", ids[0], "", 5, good, api.ErrText},
		{"a domain that is no word", ids[0], "A", 5, good, api.ErrText},
		{"a domain that is no word, and too many bytes", ids[0], "a b", 65537, good, api.ErrText},
		{"too many bytes", ids[0], "a", 65537, good, api.ErrLong},
	} {
		tagged := keys.Tagged[int]{Domain: c.domain, Value: c.n}
		if got, err := keys.Seal(g, c.id, tagged, c.bytes); !errors.Is(err, c.err) || got != nil {
			t.Errorf("Seal: %s: %x, %v, wanted %v", c.what, got, err, c.err)
		}
		if err := keys.Open(g, c.id, tagged, right, c.bytes); !errors.Is(err, c.err) {
			t.Errorf("Open: %s: %v, wanted %v", c.what, err, c.err)
		}
	}
	if err := keys.Open(g, ids[0], keys.Tagged[int]{Domain: "a", Value: 5}, right, good); err != nil || g.Signed() != 1 {
		t.Errorf("%v; %d are signed", err, g.Signed())
	}
}

// P10.1: no ring has no key (the function's error comes first here, too).
func TestSealByNoRing(t *testing.T) {
	tagged := keys.Tagged[string]{Domain: "a", Value: "b"}
	if got, err := keys.Seal(nil, "", tagged, plain); !errors.Is(err, api.ErrKey) || got != nil {
		t.Errorf("%x, %v", got, err)
	}
	if err := keys.Open(nil, "", tagged, nil, plain); !errors.Is(err, api.ErrKey) {
		t.Error(err)
	}
	tagged.Value = "?"
	if got, err := keys.Seal(nil, "", tagged, plain); !errors.Is(err, api.ErrName) || got != nil {
		t.Errorf("%x, %v", got, err)
	}
	if err := keys.Open(nil, "", tagged, nil, plain); !errors.Is(err, api.ErrName) {
		t.Error(err)
	}
}

// P10.1: the function is asked once, of the value as it is, and may itself ask the ring; what it answers isn't changed.
func TestSealAsksOnce(t *testing.T) {
	key := made(t, "0123456789abcdef")
	g := keys.New()
	id := numberByHand(key)
	told := []byte("told of it, and more")
	var asked []string
	ask := func(s string) ([]byte, error) {
		asked = append(asked, s)
		_, err := g.Add(key)
		return told[:10], err
	}
	tagged := keys.Tagged[string]{Domain: "a", Value: "its value"}
	signature, err := keys.Seal(g, id, tagged, ask)
	if err != nil || len(asked) != 1 || asked[0] != "its value" {
		t.Fatalf("%v, asked of %q", err, asked)
	}
	if err := keys.Open(g, id, tagged, signature, ask); err != nil || len(asked) != 2 || asked[1] != "its value" {
		t.Errorf("%v, asked of %q", err, asked)
	}
	if string(told) != "told of it, and more" {
		t.Errorf("the function's bytes were written over: %q", told)
	}
	told[0] = 'T'
	clear(signature[:cap(signature)])
	if err := g.Verify(id, "a", []byte("told of it"), tagByHand(key, "a", []byte("told of it"))); err != nil {
		t.Errorf("written over what was told, and answered: %v", err)
	}
}
