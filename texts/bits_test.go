package texts_test

import (
	"bytes"
	"errors"
	"slices"
	"testing"

	"bulla/api"
	"bulla/texts"
)

// P7.1: bodies that are written out.
func TestFlagsExamples(t *testing.T) {
	examples := map[int]string{
		0: "00", 1: "07 80", 2: "06 40", 3: "06 c0", 4: "05 20", 5: "05 a0", 7: "05 e0", 8: "04 10", 9: "04 90", 15: "04 f0", 16: "03 08", 32: "02 04", 64: "01 02", 128: "00 01", 129: "00 81", 255: "00 ff",
		256: "07 00 80", 257: "07 80 80", 511: "07 ff 80", 512: "06 00 40", 768: "06 00 c0", 1024: "05 00 20", 2048: "04 00 10", 4096: "03 00 08", 8192: "02 00 04", 16384: "01 00 02", 16385: "01 80 02", 32766: "01 7f fe", 32767: "01 ff fe",
	}
	for mask, figures := range examples {
		want := bin(t, figures)
		if got, err := texts.Flags(mask); err != nil || !bytes.Equal(got, want) {
			t.Errorf("%d: %x, %v, wanted %x", mask, got, err, want)
		}
		if got, err := texts.Mask(want); err != nil || got != mask {
			t.Errorf("%x: %d, %v, wanted %d", want, got, err, mask)
		}
	}
}

// P7.1, P7.2: each mask, its body, and that no other one has it.
func TestAllMasks(t *testing.T) {
	masks := map[string]int{}
	for mask := range 1 << 15 {
		body, err := texts.Flags(mask)
		if want := flagsByHand(mask); err != nil || !bytes.Equal(body, want) {
			t.Fatalf("%d: %x, %v, wanted %x", mask, body, err, want)
		}
		if other, has := masks[string(body)]; has {
			t.Fatalf("%d and %d have the body %x", other, mask, body)
		}
		masks[string(body)] = mask
		if got, err := texts.Mask(body); err != nil || got != mask {
			t.Fatalf("%d: %x, read as %d, %v", mask, body, got, err)
		}
	}
}

// P7.1: numbers that are no masks.
func TestNoMasks(t *testing.T) {
	for _, mask := range noMasks() {
		if got, err := texts.Flags(mask); !errors.Is(err, api.ErrRange) || got != nil {
			t.Errorf("%d: %x, %v, wanted %v", mask, got, err, api.ErrRange)
		}
	}
	for mask := 1 << 15; mask < 1<<17; mask++ {
		if got, err := texts.Flags(mask); !errors.Is(err, api.ErrRange) || got != nil {
			t.Fatalf("%d: %x, %v, wanted %v", mask, got, err, api.ErrRange)
		}
		if got, err := texts.Flags(-mask); !errors.Is(err, api.ErrRange) || got != nil {
			t.Fatalf("%d: %x, %v, wanted %v", -mask, got, err, api.ErrRange)
		}
	}
}

// P7.1: what Mask refuses, with the error that the chapter names first, and 0 beside it.
func TestMaskErrors(t *testing.T) {
	wrong := []struct {
		what, figures string
		err           error
	}{
		{"no bytes", "", api.ErrShort},
		{"a bit of none doesn't count", "01", api.ErrForm},
		{"seven bits of none don't count", "07", api.ErrForm},
		{"eight bits of none don't count", "08", api.ErrForm},
		{"255 bits of none don't count", "ff", api.ErrForm},
		{"eight bits don't count", "08 80", api.ErrForm},
		{"eight bits don't count, all 0", "08 00", api.ErrForm},
		{"eight bits of two bytes don't count", "08 80 00", api.ErrForm},
		{"nine bits of two bytes don't count", "09 80 00", api.ErrForm},
		{"128 bits don't count", "80 80", api.ErrForm},
		{"the last bit that counts is 0", "00 80", api.ErrForm},
		{"the only bit that counts is 0", "07 00", api.ErrForm},
		{"all bits are 0", "00 00", api.ErrForm},
		{"all bits of two bytes are 0", "00 00 00", api.ErrForm},
		{"a byte of noughts behind", "00 ff 00", api.ErrForm},
		{"a byte of noughts behind, of which one counts", "07 80 00", api.ErrForm},
		{"a bit that counts is 0 behind the last 1", "06 80", api.ErrForm},
		{"a bit that doesn't count is 1", "07 c0", api.ErrForm},
		{"all bits that don't count are 1", "07 ff", api.ErrForm},
		{"the last bit doesn't count, and is 1", "01 01", api.ErrForm},
		{"bit number 15 doesn't count, and is 1", "01 00 03", api.ErrForm},
		{"three bytes of bits", "00 01 01 01", api.ErrForm},
		{"three bytes of bits, and number 15", "00 00 01 01", api.ErrForm},
		{"three bytes of bits, the last one 0", "00 00 01 00", api.ErrForm},
		{"number 16", "07 00 00 80", api.ErrForm},
		{"bit number 15", "00 00 01", api.ErrRange},
		{"bits number 0 and 15", "00 80 01", api.ErrRange},
		{"all of 16 bits", "00 ff ff", api.ErrRange},
	}
	for _, w := range wrong {
		if got, err := texts.Mask(bin(t, w.figures)); !errors.Is(err, w.err) || got != 0 {
			t.Errorf("%s: %d, %v, wanted %v", w.what, got, err, w.err)
		}
	}
	if got, err := texts.Mask(nil); !errors.Is(err, api.ErrShort) || got != 0 {
		t.Errorf("nil: %d, %v, wanted %v", got, err, api.ErrShort)
	}
}

// P7.1, P7.2: all texts of up to two bytes, all of three that begin with few or with many that don't count, and longer ones.
func TestMaskOfAllBytes(t *testing.T) {
	for n := range 3 {
		each(n, allBytes(), func(b []byte) { holdMask(t, b) })
	}
	for idle := range 11 {
		each(2, allBytes(), func(b []byte) { holdMask(t, append([]byte{byte(idle)}, b...)) })
	}
	for n := 3; n <= 5; n++ {
		each(n, []byte{0, 1, 2, 7, 8, 9, 0x40, 0x80, 0xc0, 0xfe, 0xff}, func(b []byte) { holdMask(t, b) })
	}
	for _, size := range []int{6, 7, 8, 9, 16, 255, 256, 257, 258, 259, 65536, 65537, 65538, 65539, 1 << 20} {
		for idle := range 9 {
			for _, c := range []byte{0, 1, 0x80, 0xff} {
				b := bytes.Repeat([]byte{c}, size)
				b[0] = byte(idle)
				holdMask(t, b)
				b[size-1] = 1 << (idle % 8)
				holdMask(t, b)
			}
		}
	}
}

// P7.2: among all bytes of up to three, just as many are read as there are masks.
func TestJustOneBodyEach(t *testing.T) {
	count := 0
	for n := range 3 {
		each(n, allBytes(), func(b []byte) {
			if _, err := texts.Mask(b); err == nil {
				count++
			}
		})
	}
	each(3, allBytes(), func(b []byte) {
		if _, err := texts.Mask(b); err == nil {
			count++
		}
	})
	if count != 1<<15 {
		t.Errorf("%d bodies are read, of %d masks", count, 1<<15)
	}
}

// The rules for every call: what is answered is the caller's, with the room behind it, and what is given isn't changed.
func TestFlagsAreNew(t *testing.T) {
	for _, mask := range []int{0, 1, 256, 32767} {
		one, _ := texts.Flags(mask)
		other, _ := texts.Flags(mask)
		for i := range one[:cap(one)] {
			one[:cap(one)][i] ^= 0x55
		}
		again, _ := texts.Flags(mask)
		if want := flagsByHand(mask); !bytes.Equal(other, want) || !bytes.Equal(again, want) {
			t.Errorf("%d: writing over an answer changed another one: %x, %x", mask, other, again)
		}
	}
	room := bin(t, "07 00 80 07 80 00 00 01 05 01 02 ff")
	kept := slices.Clone(room)
	for i := range room {
		for n := i; n <= len(room); n++ {
			want, wantErr := wantMask(room[i:n])
			if got, err := texts.Mask(room[i:n]); !errors.Is(err, wantErr) || got != want {
				t.Errorf("%x with room behind it: %d, %v, wanted %d, %v", room[i:n], got, err, want, wantErr)
			}
		}
	}
	if !bytes.Equal(room, kept) {
		t.Errorf("a body was changed: %x", room)
	}
}

// FuzzMask holds whatever bytes against what the chapter tells.
func FuzzMask(f *testing.F) {
	for _, text := range []string{"", "\x00", "\x07\x80", "\x07\x00\x80", "\x00\x00\x01", "\x08\x00", "\x01\x01", "\x00\x01\x01\x01"} {
		f.Add([]byte(text))
	}
	f.Fuzz(holdMask)
}
