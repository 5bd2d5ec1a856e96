package oids_test

import (
	"bytes"
	"crypto/x509"
	"errors"
	"slices"
	"testing"

	"bulla/api"
	"bulla/oids"
)

// P5.1: bodies that are written out.
func TestPutExamples(t *testing.T) {
	examples := map[string]string{
		"0.0": "00", "0.1": "01", "0.39": "27", "1.0": "28", "1.39": "4f", "2.0": "50", "2.39": "77", "2.40": "78", "2.47": "7f", "2.48": "81 00", "2.100": "81 34",
		"2.999": "88 37", "2.999.3": "88 37 03", "1.2.840": "2a 86 48", "1.2.840.113549": "2a 86 48 86 f7 0d", "2.5.4.3": "55 04 03", "2.5.29.15": "55 1d 0f",
		"1.2.840.113549.1.1.11": "2a 86 48 86 f7 0d 01 01 0b", "1.3.6.1.4.1.311.21.20": "2b 06 01 04 01 82 37 15 14", "0.9.2342.19200300.100.1.25": "09 92 26 89 93 f2 2c 64 01 19",
		"1.2.0": "2a 00", "1.2.127": "2a 7f", "1.2.128": "2a 81 00", "1.2.16383": "2a ff 7f", "1.2.16384": "2a 81 80 00", "1.2.2097151": "2a ff ff 7f", "1.2.2097152": "2a 81 80 80 00",
		"1.2.268435455": "2a ff ff ff 7f", "1.2.268435456": "2a 81 80 80 80 00", "1.2.2147483647": "2a 87 ff ff ff 7f", "1.2.0.0": "2a 00 00",
		"2.16303": "ff 7f", "2.16304": "81 80 00", "2.2147483567": "87 ff ff ff 7f", "2.2147483568": "88 80 80 80 00", "2.2147483647": "88 80 80 80 4f", "2.2147483647.2147483647": "88 80 80 80 4f 87 ff ff ff 7f",
	}
	for text, figures := range examples {
		want := bin(t, figures)
		if got, err := oids.Put(text); err != nil || !bytes.Equal(got, want) {
			t.Errorf("%s: %x, %v, wanted %x", text, got, err, want)
		}
		if got, err := oids.Get(want); err != nil || got != text {
			t.Errorf("%x: %s, %v, wanted %s", want, got, err, text)
		}
	}
}

// P5.1: the library knows the same bodies.
func TestPutIsTheLibrarys(t *testing.T) {
	for _, arcs := range identifiers() {
		text := textByHand(arcs)
		its, err := x509.ParseOID(text)
		if err != nil {
			t.Fatal(err)
		}
		want, err := its.MarshalBinary()
		if err != nil {
			t.Fatal(err)
		}
		if got, err := oids.Put(text); err != nil || !bytes.Equal(got, want) {
			t.Fatalf("%s: %x, %v, wanted %x", text, got, err, want)
		}
		if got, err := oids.Get(want); err != nil || got != its.String() {
			t.Fatalf("%x: %s, %v, wanted %s", want, got, err, its.String())
		}
	}
}

// P5.1: what Get refuses, with the error that the chapter names first, and no text beside it.
func TestGetErrors(t *testing.T) {
	wrong := []struct {
		what, b string
		err     error
	}{
		{"nothing", "", api.ErrShort},
		{"a number without its last byte", "81", api.ErrShort},
		{"one that isn't the first", "2a 86", api.ErrShort},
		{"and needless bytes", "80", api.ErrShort},
		{"and more of them", "80 80 80", api.ErrShort},
		{"and needless bytes behind others", "2a 80", api.ErrShort},
		{"and too great a number", "ff ff ff ff ff ff", api.ErrShort},
		{"and needless bytes, and too great a number", "80 ff ff ff ff ff ff", api.ErrShort},
		{"and needless bytes, behind others that are right", "2a 03 80 80 81", api.ErrShort},
		{"and too many arcs", "00 00 00 00 00 00 00 00 00 00 00 00 00 00 00 00 81", api.ErrShort},
		{"needless bytes ahead of a number without its last byte", "80 01 81", api.ErrForm},
		{"and at that one, too", "80 01 80", api.ErrForm},
		{"needless bytes in the second number, ahead of such a one", "2a 80 01 81", api.ErrForm},
		{"needless bytes in the 17th arc, ahead of such a one", "00 00 00 00 00 00 00 00 00 00 00 00 00 00 00 80 01 81", api.ErrForm},
		{"too great a number ahead of such a one", "ff ff ff ff 7f 81", api.ErrRange},
		{"2^31+80 first, ahead of such a one", "88 80 80 80 50 81", api.ErrRange},
		{"2^31+79 first, ahead of such a one", "88 80 80 80 4f 81", api.ErrShort},
		{"2^31 behind, ahead of such a one", "2a 88 80 80 80 00 81", api.ErrRange},
		{"2^31-1 behind, ahead of such a one", "2a 87 ff ff ff 7f 81", api.ErrShort},
		{"0 in two bytes", "80 00", api.ErrForm},
		{"1 in two bytes", "80 01", api.ErrForm},
		{"127 in two bytes", "80 7f", api.ErrForm},
		{"128 in three bytes", "80 81 00", api.ErrForm},
		{"0 in three bytes", "80 80 00", api.ErrForm},
		{"840 in three bytes", "2a 80 86 48", api.ErrForm},
		{"0 in two bytes, behind", "2a 80 00", api.ErrForm},
		{"1 in two bytes, last", "2a 86 48 80 01", api.ErrForm},
		{"1 in two bytes, between", "2a 80 01 86 48", api.ErrForm},
		{"the greatest one in six bytes", "2a 80 87 ff ff ff 7f", api.ErrForm},
		{"too great a one with needless bytes", "2a 80 88 80 80 80 00", api.ErrForm},
		{"a first one of those", "80 ff ff ff ff 7f", api.ErrForm},
		{"one of many bytes", "80 80 80 80 80 80 80 80 80 80 80 80 00", api.ErrForm},
		{"2^31", "2a 88 80 80 80 00", api.ErrRange},
		{"2^31+79", "2a 88 80 80 80 4f", api.ErrRange},
		{"2^31, last", "2a 86 48 88 80 80 80 00", api.ErrRange},
		{"2^31, between", "2a 88 80 80 80 00 05", api.ErrRange},
		{"2^31+80 first", "88 80 80 80 50", api.ErrRange},
		{"2^31+81 first", "88 80 80 80 51", api.ErrRange},
		{"2^32 first", "90 80 80 80 00", api.ErrRange},
		{"2^32+42 first", "90 80 80 80 2a", api.ErrRange},
		{"2^32 behind", "2a 90 80 80 80 00", api.ErrRange},
		{"2^32+5 behind", "2a 90 80 80 80 05", api.ErrRange},
		{"2^35-1", "2a ff ff ff ff 7f", api.ErrRange},
		{"2^35 first", "81 80 80 80 80 00", api.ErrRange},
		{"2^63", "2a 81 80 80 80 80 80 80 80 80 00", api.ErrRange},
		{"2^64", "2a 82 80 80 80 80 80 80 80 80 00", api.ErrRange},
		{"2^64+5", "2a 82 80 80 80 80 80 80 80 80 05", api.ErrRange},
		{"2^64+42 first", "82 80 80 80 80 80 80 80 80 2a", api.ErrRange},
		{"2^70 first", "81 80 80 80 80 80 80 80 80 80 00", api.ErrRange},
		{"2^140+5", "2a 81 80 80 80 80 80 80 80 80 80 80 80 80 80 80 80 80 80 80 80 05", api.ErrRange},
		{"17 arcs", "2a 03 04 05 06 07 08 09 0a 0b 0c 0d 0e 0f 10 11", api.ErrRange},
		{"17 noughts", "00 00 00 00 00 00 00 00 00 00 00 00 00 00 00 00", api.ErrRange},
		{"18 arcs", "00 00 00 00 00 00 00 00 00 00 00 00 00 00 00 00 00", api.ErrRange},
		{"needless bytes ahead of too great a number", "2a 80 01 88 80 80 80 00", api.ErrForm},
		{"needless bytes behind too great a number", "2a 88 80 80 80 00 80 01", api.ErrRange},
		{"needless bytes behind a first number that is too great", "88 80 80 80 50 80 01", api.ErrRange},
		{"the 17th arc has needless bytes", "00 00 00 00 00 00 00 00 00 00 00 00 00 00 00 80 01", api.ErrForm},
		{"needless bytes behind the 17th arc", "00 00 00 00 00 00 00 00 00 00 00 00 00 00 00 00 00 00 80 01", api.ErrForm},
		{"17 arcs, needless bytes ahead", "80 00 00 00 00 00 00 00 00 00 00 00 00 00 00 00 00", api.ErrForm},
	}
	for _, w := range wrong {
		if got, err := oids.Get(bin(t, w.b)); !errors.Is(err, w.err) || got != "" {
			t.Errorf("%s: %s, %v, wanted %v", w.what, got, err, w.err)
		}
	}
	if got, err := oids.Get(nil); !errors.Is(err, api.ErrShort) || got != "" {
		t.Errorf("nil: %s, %v, wanted %v", got, err, api.ErrShort)
	}
}

// P5.1 and P5.2: all bodies of up to two bytes, and longer ones of bytes at which something changes.
func TestAllBodies(t *testing.T) {
	holdBody(t, nil)
	for n := range 3 {
		each(n, allBytes(), func(b []byte) { holdBody(t, b) })
	}
	for n := 3; n <= 5; n++ {
		each(n, []byte{0x00, 0x01, 0x27, 0x28, 0x4f, 0x50, 0x7f, 0x80, 0x81, 0xff}, func(b []byte) { holdBody(t, b) })
	}
	for n := 6; n <= 9; n++ {
		each(n, []byte{0x00, 0x4f, 0x80, 0x88}, func(b []byte) { holdBody(t, b) })
	}
}

// P5.1: each byte at each place of bodies, and numbers about the greatest ones.
func TestBodiesByteByByte(t *testing.T) {
	for _, figures := range []string{
		"2a 86 48 86 f7 0d", "88 80 80 80 4f", "2a 87 ff ff ff 7f 05", "88 80 80 80 4f 87 ff ff ff 7f 00", "2a 03 04 05 06 07 08 09 0a 0b 0c 0d 0e 0f 10", "2a 03 04 05 06 07 08 09 0a 0b 0c 0d 0e 0f 90 11",
	} {
		body := bin(t, figures)
		for i := range body {
			holdBody(t, body[:i])
			holdBody(t, body[i:])
			for c := range 256 {
				changed := slices.Clone(body)
				changed[i] = byte(c)
				holdBody(t, changed)
				holdBody(t, slices.Insert(slices.Clone(body), i, byte(c)))
				holdBody(t, append(slices.Clone(body), byte(c)))
			}
		}
	}
	for near := -200; near <= 200; near++ {
		for _, about := range []int{0, 128, 1 << 14, 1 << 21, 1 << 28, 1 << 31, mostFirst, 1 << 32, 1 << 35} {
			if n := about + near; n >= 0 {
				holdBody(t, numberByHand(n))
				holdBody(t, append([]byte{0x2a}, numberByHand(n)...))
				holdBody(t, append(numberByHand(n), 0x05))
				holdBody(t, append(append([]byte{0x2a, 0x05}, numberByHand(n)...), numberByHand(n)...))
			}
		}
	}
}

// P5.1: how many numbers a body may have, of one byte and of more, also with a wrong one at each place.
func TestHowManyNumbers(t *testing.T) {
	for n := 1; n < 40; n++ {
		for _, one := range []string{"00", "2a", "7f", "81 00", "87 ff ff ff 7f"} {
			holdBody(t, bytes.Repeat(bin(t, one), n))
		}
		for at := range n {
			for _, wrong := range []string{"80 01", "88 80 80 80 50", "80 88 80 80 80 50", "81", "80"} {
				parts := slices.Repeat([][]byte{{5}}, n)
				parts[at] = bin(t, wrong)
				holdBody(t, bytes.Join(parts, nil))
			}
		}
	}
}

// P5.1: bodies of many bytes.
func TestLongBodies(t *testing.T) {
	for _, size := range []int{127, 128, 255, 256, 65535, 65536, 65537, 1 << 20} {
		wrong := map[error][]byte{
			api.ErrShort: bytes.Repeat([]byte{0x81}, size),
			api.ErrForm:  append(bytes.Repeat([]byte{0x80}, size), 0),
			api.ErrRange: append(bytes.Repeat([]byte{0x81}, size), 0),
		}
		for want, body := range wrong {
			if got, err := oids.Get(body); !errors.Is(err, want) || got != "" {
				t.Errorf("%x.. of %d bytes: %s, %v, wanted %v", start(body), size, got, err, want)
			}
		}
		if got, err := oids.Get(make([]byte, size)); !errors.Is(err, api.ErrRange) || got != "" {
			t.Errorf("%d noughts: %.60s, %v, wanted %v", size, got, err, api.ErrRange)
		}
		if got, err := oids.Get(append(make([]byte, size), 0x80, 0)); !errors.Is(err, api.ErrForm) || got != "" {
			t.Errorf("needless bytes behind %d noughts: %.60s, %v, wanted %v", size, got, err, api.ErrForm)
		}
	}
}

// P5.2: of all bodies of up to two bytes just one is that of each identifier whose body is no longer, and it has just one text.
func TestJustOneBody(t *testing.T) {
	bodies := map[string]string{}
	for size := range 3 {
		each(size, allBytes(), func(b []byte) {
			text, err := oids.Get(b)
			if err != nil {
				return
			}
			if other, ok := bodies[text]; ok {
				t.Fatalf("%s has the bodies %x and %x", text, other, b)
			}
			bodies[text] = string(b)
		})
	}
	var want [][]int
	for first := range 3 {
		for second := range 1<<14 - 80 {
			if first < 2 && second > 39 {
				continue
			}
			want = append(want, []int{first, second})
			if 40*first+second < 128 {
				for third := range 128 {
					want = append(want, []int{first, second, third})
				}
			}
		}
	}
	for _, arcs := range want {
		text := textByHand(arcs)
		if body, ok := bodies[text]; !ok || body != string(bodyByHand(arcs)) {
			t.Fatalf("%s has the body %x, but %x is its own", text, body, bodyByHand(arcs))
		}
	}
	if len(bodies) != len(want) {
		t.Errorf("%d identifiers have bodies, wanted %d", len(bodies), len(want))
	}
}

// P5.2: what says the same numbers by more bytes is no body.
func TestNoLongerBody(t *testing.T) {
	for _, arcs := range identifiers() {
		parts := split(bodyByHand(arcs))
		for at := range parts {
			for _, needless := range []string{"80", "80 80", "80 80 80 80 80 80 80 80 80 80"} {
				longer := slices.Insert(slices.Clone(parts), at, bin(t, needless))
				body := bytes.Join(longer, nil)
				if got, err := oids.Get(body); !errors.Is(err, api.ErrForm) || got != "" {
					t.Fatalf("%x: %s, %v, wanted %v", body, got, err, api.ErrForm)
				}
			}
		}
	}
}

// The rules for every call: what is answered is the caller's, with the room behind it, and what is given isn't changed.
func TestBodiesAreNew(t *testing.T) {
	want := bin(t, "2a 86 48")
	one, _ := oids.Put("1.2.840")
	other, _ := oids.Put("1.2.840")
	for i := range one[:cap(one)] {
		one[:cap(one)][i] ^= 0x55
	}
	if again, _ := oids.Put("1.2.840"); !bytes.Equal(other, want) || !bytes.Equal(again, want) {
		t.Errorf("writing over an answer changed another one: %x, %x", other, again)
	}
	room := bin(t, "2a 86 48 80 01 88 80 80 80 4f 05 ff")
	kept := slices.Clone(room)
	for i := range room {
		for n := i; n <= len(room); n++ {
			oids.Get(room[i:n])
		}
	}
	if !bytes.Equal(room, kept) {
		t.Errorf("a body was changed: %x", room)
	}
}

// FuzzGet holds whatever bytes against what the chapter tells.
func FuzzGet(f *testing.F) {
	for _, figures := range []string{"", "2a 86 48", "80 01", "81", "88 80 80 80 4f", "88 80 80 80 50", "2a 88 80 80 80 00", "00 00 00 00 00 00 00 00 00 00 00 00 00 00 00 00"} {
		f.Add(bin(f, figures))
	}
	f.Fuzz(holdBody)
}
