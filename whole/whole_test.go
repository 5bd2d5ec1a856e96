package whole_test

import (
	"bytes"
	"encoding/binary"
	"encoding/hex"
	"errors"
	"math"
	"math/big"
	"math/rand"
	"slices"
	"strings"
	"testing"

	"bulla/api"
	"bulla/whole"
)

// bin is the bytes of figures with blanks between.
func bin(t testing.TB, figures string) []byte {
	t.Helper()
	b, err := hex.DecodeString(strings.ReplaceAll(figures, " ", ""))
	if err != nil {
		t.Fatal(err)
	}
	return b
}

// start is the first bytes of many.
func start(b []byte) []byte { return b[:min(len(b), 24)] }

// meant is the number whose two's complement bytes are, however many.
func meant(b []byte) *big.Int {
	n := new(big.Int).SetBytes(b)
	if len(b) > 0 && b[0] >= 0x80 {
		n.Sub(n, new(big.Int).Lsh(big.NewInt(1), uint(8*len(b))))
	}
	return n
}

// byHand is a number's body: the fewest of the last of its eight bytes that still mean it.
func byHand(n int) []byte {
	eight := binary.BigEndian.AppendUint64(nil, uint64(n))
	for size := 1; ; size++ {
		if b := eight[8-size:]; meant(b).Cmp(big.NewInt(int64(n))) == 0 {
			return b
		}
	}
}

// wantGet is Get as the chapter tells it, sentence by sentence.
func wantGet(b []byte) (int, error) {
	if len(b) == 0 {
		return 0, api.ErrShort
	}
	n := meant(b)
	if len(b) > 1 && meant(b[1:]).Cmp(n) == 0 {
		return 0, api.ErrForm
	}
	if len(b) > 8 {
		return 0, api.ErrRange
	}
	return int(n.Int64()), nil
}

// each gives all texts of so many bytes of an alphabet.
func each(n int, alphabet []byte, do func(b []byte)) {
	b := make([]byte, n)
	var fill func(i int)
	fill = func(i int) {
		if i == n {
			do(b)
			return
		}
		for _, c := range alphabet {
			b[i] = c
			fill(i + 1)
		}
	}
	fill(0)
}

// allBytes is each byte.
func allBytes() []byte {
	b := make([]byte, 256)
	for i := range b {
		b[i] = byte(i)
	}
	return b
}

// numbers is all that two bytes hold and some more, those about each power of two, and others of each size.
func numbers() []int {
	var list []int
	for n := -70000; n <= 70000; n++ {
		list = append(list, n)
	}
	for power := range 64 {
		for near := -3; near <= 3; near++ {
			list = append(list, 1<<power+near, -(1<<power)+near)
		}
	}
	r := rand.New(rand.NewSource(4))
	for shift := range 64 {
		for range 50 {
			list = append(list, int(r.Uint64())>>shift)
		}
	}
	return append(list, api.MaxTime, api.MaxSerial, api.MaxGen, 0x0102030405060708, math.MinInt, math.MinInt+1, math.MaxInt-1, math.MaxInt)
}

// P4.1: bodies that are written out.
func TestPutExamples(t *testing.T) {
	examples := map[int]string{
		0: "00", 1: "01", -1: "ff", 5: "05", 127: "7f", -128: "80", -127: "81", -2: "fe",
		128: "00 80", -129: "ff 7f", 255: "00 ff", 256: "01 00", -255: "ff 01", -256: "ff 00", -257: "fe ff",
		32767: "7f ff", 32768: "00 80 00", -32768: "80 00", -32769: "ff 7f ff", 65535: "00 ff ff", 65536: "01 00 00",
		1<<23 - 1: "7f ff ff", 1 << 23: "00 80 00 00", -(1 << 23): "80 00 00", -(1 << 23) - 1: "ff 7f ff ff",
		0x0102030405060708: "01 02 03 04 05 06 07 08", 0x01020304: "01 02 03 04", -0x01020304: "fe fd fc fc",
		1 << 31: "00 80 00 00 00", -(1 << 31): "80 00 00 00", 1<<32 - 1: "00 ff ff ff ff", api.MaxSerial: "01 00 00 00 00 00",
		api.MaxTime: "3a ff f4 41 7f", 1<<55 - 1: "7f ff ff ff ff ff ff", 1 << 55: "00 80 00 00 00 00 00 00",
		math.MaxInt: "7f ff ff ff ff ff ff ff", math.MinInt: "80 00 00 00 00 00 00 00",
	}
	for n, figures := range examples {
		want := bin(t, figures)
		if got := whole.Put(n); !bytes.Equal(got, want) {
			t.Errorf("%d: %x, wanted %x", n, got, want)
		}
		if got, err := whole.Get(want); err != nil || got != n {
			t.Errorf("%x: %d, %v, wanted %d", want, got, err, n)
		}
		if got := whole.Bytes(n); got != len(want) {
			t.Errorf("%d: %d bytes, wanted %d", n, got, len(want))
		}
	}
}

// P4.1 and P4.2: a number's body is the shortest that means it, and tells it.
func TestNumbers(t *testing.T) {
	for _, n := range numbers() {
		b := whole.Put(n)
		if want := byHand(n); !bytes.Equal(b, want) || whole.Bytes(n) != len(want) {
			t.Fatalf("%d: %x, %d bytes, wanted %x", n, b, whole.Bytes(n), want)
		}
		if got, err := whole.Get(b); err != nil || got != n {
			t.Fatalf("%x: %d, %v, wanted %d", b, got, err, n)
		}
	}
}

// P4.1: what Get refuses, with the error that the chapter names first, and 0 beside it.
func TestGetErrors(t *testing.T) {
	wrong := []struct {
		what, b string
		err     error
	}{
		{"nothing", "", api.ErrShort},
		{"a needless nought", "00 05", api.ErrForm},
		{"0 in two bytes", "00 00", api.ErrForm},
		{"127 in two bytes", "00 7f", api.ErrForm},
		{"-1 in two bytes", "ff ff", api.ErrForm},
		{"-128 in two bytes", "ff 80", api.ErrForm},
		{"128 in three bytes", "00 00 80", api.ErrForm},
		{"-129 in three bytes", "ff ff 7f", api.ErrForm},
		{"0 in eight bytes", "00 00 00 00 00 00 00 00", api.ErrForm},
		{"-1 in eight bytes", "ff ff ff ff ff ff ff ff", api.ErrForm},
		{"the greatest one of eight bytes in nine", "00 7f ff ff ff ff ff ff ff", api.ErrForm},
		{"the least one of eight bytes in nine", "ff 80 00 00 00 00 00 00 00", api.ErrForm},
		{"0 in nine bytes", "00 00 00 00 00 00 00 00 00", api.ErrForm},
		{"2^63", "00 80 00 00 00 00 00 00 00", api.ErrRange},
		{"2^64-1", "00 ff ff ff ff ff ff ff ff", api.ErrRange},
		{"-2^63-1", "ff 7f ff ff ff ff ff ff ff", api.ErrRange},
		{"2^64", "01 00 00 00 00 00 00 00 00", api.ErrRange},
		{"2^64+5", "01 00 00 00 00 00 00 00 05", api.ErrRange},
		{"-2^64", "ff 00 00 00 00 00 00 00 00", api.ErrRange},
		{"-2^71", "80 00 00 00 00 00 00 00 00", api.ErrRange},
		{"2^71-1", "7f ff ff ff ff ff ff ff ff", api.ErrRange},
		{"2^72 in ten bytes", "01 00 00 00 00 00 00 00 00 00", api.ErrRange},
		{"2^63 in ten bytes", "00 00 80 00 00 00 00 00 00 00", api.ErrForm},
	}
	for _, w := range wrong {
		b := bin(t, w.b)
		if got, err := whole.Get(b); !errors.Is(err, w.err) || got != 0 {
			t.Errorf("%s: %d, %v, wanted %v", w.what, got, err, w.err)
		}
		if got, err := whole.Range(b, math.MinInt, math.MaxInt); !errors.Is(err, w.err) || got != 0 {
			t.Errorf("%s, within bounds: %d, %v, wanted %v", w.what, got, err, w.err)
		}
		if got, err := whole.Range(b, 1, 0); !errors.Is(err, w.err) || got != 0 {
			t.Errorf("%s, within none: %d, %v, wanted %v", w.what, got, err, w.err)
		}
	}
	if got, err := whole.Get(nil); !errors.Is(err, api.ErrShort) || got != 0 {
		t.Errorf("nil: %d, %v, wanted %v", got, err, api.ErrShort)
	}
}

// P4.1: bodies of many bytes, the first ones needless or not.
func TestGetOfLongBodies(t *testing.T) {
	for _, size := range []int{9, 10, 16, 17, 127, 128, 255, 256, 257, 264, 65530, 65536, 1 << 20} {
		for _, first := range []string{"00 00", "00 7f", "00 80", "00 ff", "01 00", "7f ff", "80 00", "ff 00", "ff 7f", "ff 80", "ff ff"} {
			b := append(bin(t, first), bytes.Repeat([]byte{5}, size-2)...)
			want := api.ErrRange
			if (b[0] == 0 && b[1] < 0x80) || (b[0] == 0xff && b[1] >= 0x80) {
				want = api.ErrForm
			}
			if got, err := whole.Get(b); !errors.Is(err, want) || got != 0 {
				t.Errorf("%d bytes, %s first: %d, %v, wanted %v", size, first, got, err, want)
			}
		}
	}
}

// holdGet holds Get against what the chapter tells; what has a number is that number's body.
func holdGet(t *testing.T, b []byte) {
	t.Helper()
	got, err := whole.Get(b)
	want, wantErr := wantGet(b)
	if !errors.Is(err, wantErr) || got != want {
		t.Fatalf("%x..: %d, %v, wanted %d, %v", start(b), got, err, want, wantErr)
	}
	if err == nil && !bytes.Equal(whole.Put(got), b) {
		t.Fatalf("%x has the number %d, whose body is %x", b, got, whole.Put(got))
	}
}

// P4.1 and P4.2: all texts of up to two bytes, and longer ones of bytes at which something changes.
func TestGetOfAllTexts(t *testing.T) {
	for n := range 3 {
		each(n, allBytes(), func(b []byte) { holdGet(t, b) })
	}
	for _, last := range []byte{0x00, 0x80, 0xff} {
		each(2, allBytes(), func(b []byte) { holdGet(t, append(slices.Clone(b), last)) })
	}
	for n := 3; n <= 5; n++ {
		each(n, []byte{0x00, 0x01, 0x05, 0x7f, 0x80, 0x81, 0xfe, 0xff}, func(b []byte) { holdGet(t, b) })
	}
	for n := 6; n <= 10; n++ {
		each(n, []byte{0x00, 0x7f, 0xff}, func(b []byte) { holdGet(t, b) })
	}
	for n := 3; n <= 10; n++ { // each byte in the first two places, ahead of others
		behind := bytes.Repeat([]byte{0x9a}, n-2)
		each(2, allBytes(), func(b []byte) { holdGet(t, append(slices.Clone(b), behind...)) })
	}
}

// P4.2: of all texts of up to two bytes just one is the body of each number that two bytes hold, and none of another.
func TestJustOneBody(t *testing.T) {
	bodies := map[int]string{}
	for size := range 3 {
		each(size, allBytes(), func(b []byte) {
			n, err := whole.Get(b)
			if err != nil {
				return
			}
			if other, ok := bodies[n]; ok {
				t.Fatalf("%d has the bodies %x and %x", n, other, b)
			}
			bodies[n] = string(b)
		})
	}
	for n := -1 << 15; n < 1<<15; n++ {
		if body, ok := bodies[n]; !ok || body != string(whole.Put(n)) {
			t.Fatalf("%d has the body %x, but %x is put", n, body, whole.Put(n))
		}
	}
	if len(bodies) != 1<<16 {
		t.Errorf("%d numbers", len(bodies))
	}
}

// P4.2: what means the same number by more bytes is no body of it.
func TestNoLongerBody(t *testing.T) {
	for _, n := range numbers() {
		sign := byte(0)
		if n < 0 {
			sign = 0xff
		}
		b := whole.Put(n)
		for range 10 {
			b = append([]byte{sign}, b...)
			if got, err := whole.Get(b); !errors.Is(err, api.ErrForm) || got != 0 {
				t.Fatalf("%x: %d, %v, wanted %v", b, got, err, api.ErrForm)
			}
		}
	}
}

// P4.1: numbers at, beside and far from bounds, also such that nothing lies between.
func TestRange(t *testing.T) {
	bounds := []int{math.MinInt, math.MinInt + 1, -1 << 40, -129, -128, -1, 0, 1, 127, 128, 255, 256, api.MaxSerial, api.MaxTime, math.MaxInt - 1, math.MaxInt}
	var list []int
	for _, n := range bounds {
		list = append(list, n-1, n, n+1) // beyond the greatest one stands the least one
	}
	for _, n := range list {
		for _, least := range bounds {
			for _, most := range bounds {
				want, wantErr := n, error(nil)
				if n < least || most < n {
					want, wantErr = 0, api.ErrRange
				}
				got, err := whole.Range(whole.Put(n), least, most)
				if !errors.Is(err, wantErr) || got != want {
					t.Fatalf("%d, from %d to %d: %d, %v, wanted %d, %v", n, least, most, got, err, want, wantErr)
				}
			}
		}
	}
}

// The rules for every call: what is answered is the caller's, with the room behind it.
func TestPutIsNew(t *testing.T) {
	for _, n := range []int{0, 1, -1, 128, math.MaxInt} {
		one, other := whole.Put(n), whole.Put(n)
		for i := range one[:cap(one)] {
			one[:cap(one)][i] ^= 0x55
		}
		if want := byHand(n); !bytes.Equal(other, want) || !bytes.Equal(whole.Put(n), want) {
			t.Errorf("%d: writing over an answer changed another one", n)
		}
	}
}

// The rules for every call: what is read isn't changed, nor the room behind it.
func TestReadingChangesNothing(t *testing.T) {
	room := bin(t, "ff 7f 00 00 80 01 02 03 04 05 06 07")
	kept := slices.Clone(room)
	for i := range room {
		for n := i; n <= len(room); n++ {
			whole.Get(room[i:n])
			whole.Range(room[i:n], -5, 5)
			whole.IsTrue(room[i:n])
		}
	}
	if !bytes.Equal(room, kept) {
		t.Error("it was changed")
	}
}

// FuzzGet holds whatever bytes against what the chapter tells.
func FuzzGet(f *testing.F) {
	for _, b := range []string{"", "\x00", "\x00\x80", "\xff\x7f", "\x00\x7f", "\x00\x80\x00\x00\x00\x00\x00\x00\x00", "\x80\x00\x00\x00\x00\x00\x00\x00"} {
		f.Add([]byte(b))
	}
	f.Fuzz(func(t *testing.T, b []byte) {
		holdGet(t, b)
		holdIsTrue(t, b)
	})
}
