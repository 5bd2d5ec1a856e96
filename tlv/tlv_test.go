package tlv_test

import (
	"bytes"
	"encoding/hex"
	"errors"
	"slices"
	"testing"

	"bulla/api"
	"bulla/tlv"
)

// bin is the bytes of figures with blanks between.
func bin(t testing.TB, figures string) []byte {
	t.Helper()
	b, err := hex.DecodeString(string(bytes.ReplaceAll([]byte(figures), []byte(" "), nil)))
	if err != nil {
		t.Fatal(err)
	}
	return b
}

// start is the first bytes of many.
func start(b []byte) []byte { return b[:min(len(b), 24)] }

// lengths is those of bodies at which something changes, and each short one.
func lengths() []int {
	list := []int{}
	for n := range 600 {
		list = append(list, n)
	}
	for n := 1000; n < most; n += 3001 {
		list = append(list, n)
	}
	return append(list, 32767, 32768, 65279, 65280, 65528, 65529, most)
}

func sameElement(a, b tlv.Element) bool {
	return a.Tag == b.Tag && bytes.Equal(a.Body, b.Body)
}

// P3.1: bytes that are written out.
func TestPutExamples(t *testing.T) {
	examples := []struct {
		tag        int
		body, want string
	}{
		{api.TagNull, "", "05 00"},
		{api.TagInt, "05", "02 01 05"},
		{api.TagList, "02 01 05", "30 03 02 01 05"},
		{api.TagBool, "ff", "01 01 ff"},
		{api.TagContext, "", "a0 00"},
		{api.TagContext + 15, "05 00", "af 02 05 00"},
		{api.TagMoment, "00", "18 01 00"},
		{api.TagSet, "ff fe", "31 02 ff fe"}, // a body isn't looked at
	}
	for _, x := range examples {
		got, err := tlv.Put(tlv.Element{Tag: x.tag, Body: bin(t, x.body)})
		if err != nil || !bytes.Equal(got, bin(t, x.want)) {
			t.Errorf("%d, %s: %x, %v, wanted %s", x.tag, x.body, got, err, x.want)
		}
	}
}

// P3.1: lengths as short as can be, up to the longest body.
func TestPutLengths(t *testing.T) {
	heads := map[int]string{
		0: "04 00", 1: "04 01", 127: "04 7f", 128: "04 81 80", 129: "04 81 81", 255: "04 81 ff",
		256: "04 82 01 00", 257: "04 82 01 01", 65279: "04 82 fe ff", 65280: "04 82 ff 00", most: "04 82 ff fa",
	}
	for n, head := range heads {
		got, err := tlv.Put(tlv.Element{Tag: api.TagOctets, Body: message(n)})
		if err != nil || !bytes.Equal(got, append(bin(t, head), message(n)...)) {
			t.Errorf("of %d bytes: %x.., %v", n, start(got), err)
		}
	}
}

// P3.1: what Put refuses, the tag ahead of the body, and nothing beside the error.
func TestPutErrors(t *testing.T) {
	for _, body := range [][]byte{nil, {0}, message(most), message(most + 1)} {
		for _, tag := range others() {
			if got, err := tlv.Put(tlv.Element{Tag: tag, Body: body}); !errors.Is(err, api.ErrTag) || got != nil {
				t.Fatalf("%d and %d bytes: %x.., %v", tag, len(body), start(got), err)
			}
		}
	}
	for _, n := range []int{most + 1, most + 2, 65535, 65536, 65537, 1 << 20} {
		for _, tag := range known() {
			if got, err := tlv.Put(tlv.Element{Tag: tag, Body: message(n)}); !errors.Is(err, api.ErrLong) || got != nil {
				t.Fatalf("%d and %d bytes: %x.., %v", tag, n, start(got), err)
			}
		}
	}
}

// P3.2: what is put is read as the same, with what stands behind it, of each tag and each sort of length.
func TestPutIsRead(t *testing.T) {
	behinds := [][]byte{nil, {0}, {0x80}, {5, 0}, {2, 1, 5, 0xff}, message(300)}
	for i, n := range lengths() {
		for j, tag := range known() {
			if n > 600 && (i+j)%9 > 0 { // not all of the long ones: they take long
				continue
			}
			e := tlv.Element{Tag: tag, Body: message(n)}
			b, err := tlv.Put(e)
			if err != nil || !bytes.Equal(b, byHand(tag, e.Body)) {
				t.Fatalf("%d and %d bytes: %x.., %v", tag, n, start(b), err)
			}
			behind := behinds[(i+j)%len(behinds)]
			got, rest, err := tlv.Next(append(b, behind...))
			if err != nil || !sameElement(got, e) || !bytes.Equal(rest, behind) {
				t.Fatalf("%d and %d bytes: read as another one, %v", tag, n, err)
			}
		}
	}
}

// P3.1: what Next refuses, with the error that the chapter names first.
func TestNextErrors(t *testing.T) {
	wrong := []struct {
		what, b string
		err     error
	}{
		{"nothing", "", api.ErrShort},
		{"no tag that is known", "00", api.ErrTag},
		{"no tag that is known, with a length", "13 01 41", api.ErrTag},
		{"a list's number, not made of others", "10 00", api.ErrTag},
		{"a context's, not made of others", "80 00", api.ErrTag},
		{"the tag behind the last context's", "b0 00", api.ErrTag},
		{"the tag ahead of the first context's", "9f 00", api.ErrTag},
		{"a tag alone", "02", api.ErrShort},
		{"a length that doesn't tell one", "02 80", api.ErrForm},
		{"that, with the end of such a one", "30 80 05 00 00 00", api.ErrForm},
		{"a length of 5 bytes", "02 85", api.ErrForm},
		{"a length of 5 bytes that are there", "02 85 00 00 00 00 01 05", api.ErrForm},
		{"a length of 127 bytes", "02 ff", api.ErrForm},
		{"a length of 1 byte that isn't there", "02 81", api.ErrShort},
		{"a length of 2 bytes, one of them there", "02 82 00", api.ErrShort},
		{"a length of 4 bytes, 3 of them there", "02 84 00 00 00", api.ErrShort},
		{"a length that needs no byte more", "02 81 01 05", api.ErrForm},
		{"a length of none that needs no byte more", "05 81 00", api.ErrForm},
		{"127 in a byte more, without a body", "02 81 7f", api.ErrForm},
		{"255 in two bytes, without a body", "02 82 00 ff", api.ErrForm},
		{"65535 in three bytes", "02 83 00 ff ff", api.ErrForm},
		{"256 in four bytes", "02 84 00 00 01 00", api.ErrForm},
		{"2^24-1 in four bytes", "02 84 00 ff ff ff", api.ErrForm},
		{"a body of 65531 bytes", "02 82 ff fb", api.ErrLong},
		{"a body of 65535 bytes", "02 82 ff ff", api.ErrLong},
		{"a body of 2^16 bytes", "02 83 01 00 00", api.ErrLong},
		{"a body of 2^24 bytes", "02 84 01 00 00 00", api.ErrLong},
		{"a body of 2^31 bytes", "02 84 80 00 00 00", api.ErrLong},
		{"a body of 2^32-1 bytes", "02 84 ff ff ff ff", api.ErrLong},
		{"a body of 65530 bytes that isn't there", "02 82 ff fa", api.ErrShort},
		{"a body of 128 bytes that isn't there", "02 81 80 00", api.ErrShort},
		{"a body of 1 byte that isn't there", "02 01", api.ErrShort},
		{"a body of 3 bytes, 2 of them there", "30 03 02 01", api.ErrShort},
	}
	for _, w := range wrong {
		e, rest, err := tlv.Next(bin(t, w.b))
		if !errors.Is(err, w.err) || e.Tag != 0 || e.Body != nil || rest != nil {
			t.Errorf("%s: %v, %x, %v, wanted %v", w.what, e, rest, err, w.err)
		}
		if w.b == "" {
			continue
		}
		list, err := tlv.All(append(bin(t, "05 00 04 01 07"), bin(t, w.b)...))
		if !errors.Is(err, w.err) || list != nil {
			t.Errorf("%s, behind others: %v, %v, wanted %v", w.what, list, err, w.err)
		}
	}
}

// P3.1: a body that lacks a byte, of each sort of length.
func TestNextOfShorter(t *testing.T) {
	for _, n := range []int{1, 2, 127, 128, 200, 255, 256, 300, 65280, most} {
		b := byHand(api.TagOctets, message(n))
		for cut := range min(len(b), 400) {
			for _, short := range [][]byte{b[:cut], b[:len(b)-1-cut]} {
				if e, rest, err := tlv.Next(short); !errors.Is(err, api.ErrShort) || e.Body != nil || rest != nil {
					t.Fatalf("%d of %d bytes: %v", len(short), len(b), err)
				}
			}
		}
	}
}

// each gives all texts of so many bytes of an alphabet.
func each(n int, alphabet []byte, do func(b []byte)) {
	b := make([]byte, n)
	var fill func(i int)
	fill = func(i int) {
		if i == n {
			do(b)
			return
		}
		for _, c := range alphabet {
			b[i] = c
			fill(i + 1)
		}
	}
	fill(0)
}

// P3.1: Next and All of each text of up to three bytes, and of longer ones of bytes at which something changes.
func TestNextOfAllTexts(t *testing.T) {
	all := make([]byte, 256)
	for i := range all {
		all[i] = byte(i)
	}
	for n := range 3 {
		each(n, all, func(b []byte) { holdNext(t, b) })
	}
	for _, first := range []byte{0x02, 0x30, 0xa3, 0x07} {
		each(2, all, func(b []byte) { holdNext(t, append([]byte{first}, b...)) })
	}
	some := []byte{0x00, 0x01, 0x02, 0x05, 0x30, 0x7f, 0x80, 0x81, 0x82, 0x83, 0x84, 0x85, 0xfa, 0xfb, 0xff}
	for n := 3; n <= 5; n++ {
		each(n, some, func(b []byte) { holdNext(t, b) })
	}
	for n := 1; n <= 4; n++ { // of whole lengths, with bodies that are there
		each(n, some, func(b []byte) {
			b = append([]byte{0x04, byte(0x80 + n)}, b...)
			holdNext(t, b)
			holdNext(t, append(b, make([]byte, 260)...))
		})
	}
}

// holdNext holds Next and All against what the chapter tells.
func holdNext(t *testing.T, b []byte) {
	t.Helper()
	e, rest, err := tlv.Next(b)
	want, behind, wantErr := wantNext(b)
	if !errors.Is(err, wantErr) || !sameElement(e, want) || !bytes.Equal(rest, behind) {
		t.Fatalf("%x..: %v, %x, %v, wanted %v, %x, %v", start(b), e, start(rest), err, want, start(behind), wantErr)
	}
	list, err := tlv.All(b)
	wants, wantErr := wantAll(b)
	if !errors.Is(err, wantErr) || !slices.EqualFunc(list, wants, sameElement) {
		t.Fatalf("%x..: %v, %v, wanted %v, %v", start(b), list, err, wants, wantErr)
	}
}

// P3.1: all elements, in order, up to the end; how many bytes they have in all isn't bounded.
func TestAll(t *testing.T) {
	if list, err := tlv.All(nil); err != nil || len(list) > 0 {
		t.Errorf("of nothing: %v, %v", list, err)
	}
	var b []byte
	var want []tlv.Element
	for i, n := range lengths() {
		e := tlv.Element{Tag: known()[i%len(known())], Body: message(n)}
		b, want = append(b, byHand(e.Tag, e.Body)...), append(want, e)
	}
	if list, err := tlv.All(b); err != nil || !slices.EqualFunc(list, want, sameElement) {
		t.Errorf("of %d bytes: %d elements, %v, wanted %d", len(b), len(list), err, len(want))
	}
	if list, err := tlv.All(b[:len(b)-1]); !errors.Is(err, api.ErrShort) || list != nil {
		t.Errorf("less a byte: %d elements, %v", len(list), err)
	}
	if list, err := tlv.All(append(b, 0)); !errors.Is(err, api.ErrTag) || list != nil {
		t.Errorf("and a byte: %d elements, %v", len(list), err)
	}
}

// P3.1: very many elements take no more time than their number asks for.
func TestAllOfMany(t *testing.T) {
	const count = 1 << 20
	b := bytes.Repeat([]byte{0x05, 0x00}, count)
	list, err := tlv.All(b)
	if err != nil || len(list) != count {
		t.Errorf("%d elements, %v, wanted %d", len(list), err, count)
	}
	e, rest, err := tlv.Next(b)
	if err != nil || e.Tag != api.TagNull || len(e.Body) > 0 || !bytes.Equal(rest, b[2:]) {
		t.Errorf("the first one: %v, %d bytes behind it, %v", e, len(rest), err)
	}
}

// scrawl writes over a list, and the room behind it.
func scrawl(b []byte) {
	b = b[:cap(b)]
	for i := range b {
		b[i] = 0xee
	}
}

// The rules for every call: what is answered shares nothing with what was given, nor with what else is answered.
func TestAnswersAreNew(t *testing.T) {
	text := bin(t, "30 03 02 01 05 04 02 07 08 05 00 31 00 ff ff ff")
	b := slices.Clone(text)
	given := b[:len(b)-3] // there is room behind it
	e, rest, err := tlv.Next(given)
	if err != nil {
		t.Fatal(err)
	}
	behind := slices.Clone(rest)
	scrawl(e.Body)
	if !bytes.Equal(rest, behind) || !bytes.Equal(b, text) {
		t.Error("writing over the body changed something else")
	}
	scrawl(rest)
	list, err := tlv.All(given)
	if err != nil || !bytes.Equal(b, text) {
		t.Fatalf("writing over what stands behind changed something else, %v", err)
	}
	want, _ := wantAll(text[:len(given)])
	for i := range list {
		if !slices.EqualFunc(list[i:], want[i:], sameElement) {
			t.Errorf("writing over element %d changed those behind it", i-1)
		}
		scrawl(list[i].Body)
	}
	if !bytes.Equal(b, text) {
		t.Error("writing over elements changed what was given")
	}
}

// The rules for every call: what is put isn't kept, nor changed, nor the room behind it.
func TestPutIsNew(t *testing.T) {
	body := message(40)
	one, _ := tlv.Put(tlv.Element{Tag: api.TagOctets, Body: body[:20]})
	other, _ := tlv.Put(tlv.Element{Tag: api.TagOctets, Body: body[:20]})
	scrawl(one)
	if !bytes.Equal(body, message(40)) || !bytes.Equal(other, byHand(api.TagOctets, message(20))) {
		t.Error("writing over what was put changed something else")
	}
	scrawl(body)
	if !bytes.Equal(other, byHand(api.TagOctets, message(20))) {
		t.Error("the body was kept")
	}
}
