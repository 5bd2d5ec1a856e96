package tlv_test

import (
	"bytes"
	"errors"
	"math/rand"
	"slices"
	"strings"
	"testing"

	"bulla/api"
	"bulla/tlv"
)

// holdCheck holds Check and Depth against what is wanted.
func holdCheck(t *testing.T, what string, b []byte, depth int, err error) {
	t.Helper()
	if got := tlv.Check(b); !errors.Is(got, err) {
		t.Errorf("%s: %v, wanted %v", what, got, err)
	}
	if err != nil {
		depth = 0
	}
	if got := tlv.Depth(b); got != depth {
		t.Errorf("%s: %d levels, wanted %d", what, got, depth)
	}
}

// P3.1: elements that are whole, and how many levels they have.
func TestWhole(t *testing.T) {
	whole := []struct {
		what, b string
		depth   int
	}{
		{"a list of a whole number", "30 03 02 01 05", 2},
		{"a number", "02 01 05", 1},
		{"an element of no bytes", "05 00", 1},
		{"a list of none", "30 00", 1},
		{"a set of none", "31 00", 1},
		{"a context of none", "af 00", 1},
		{"a context of one", "a0 02 05 00", 2},
		{"a list of a list of none", "30 02 30 00", 2},
		{"a body that isn't looked at", "04 03 30 81 01", 1},
		{"a body that looks like lists", "04 04 30 02 30 00", 1},
		{"the deepest one first", "30 0a 30 04 30 02 05 00 05 00 05 00", 4},
		{"the deepest one between", "30 0a 05 00 a1 04 31 02 05 00 05 00", 4},
		{"the deepest one last", "30 0a 05 00 05 00 30 04 a0 02 05 00", 4},
		{"a list whose elements fall", "30 06 02 01 05 02 01 04", 2},
		{"a context whose elements fall", "a0 04 05 00 01 00", 2},
		{"a set whose elements rise", "31 06 02 01 04 02 01 05", 2},
		{"a set of the same ones", "31 09 02 01 05 02 01 05 02 01 05", 2},
		{"a set that rises by tags", "31 06 01 02 ff ff 05 00", 2},
		{"a set that rises by lengths", "31 07 02 01 ff 02 02 00 80", 2},
		{"a set that rises as bytes do, not as numbers", "31 06 02 01 7f 02 01 80", 2},
		{"a set of sets", "31 0a 31 03 02 01 09 31 03 02 01 0a", 3},
		{"a set that rises by how many bytes a length has", "31 81 87 04 00 04 81 80" + strings.Repeat("00", 128) + "05 00", 2},
	}
	for _, w := range whole {
		holdCheck(t, w.what, bin(t, w.b), w.depth, nil)
	}
	for _, tag := range plain() {
		holdCheck(t, "each plain tag", byHand(tag, []byte{0, 0x80}), 1, nil)
	}
	for _, tag := range made() {
		holdCheck(t, "each tag of what is made of others", byHand(tag, []byte{5, 0}), 2, nil)
		holdCheck(t, "each such tag, of what is no element", byHand(tag, []byte{0, 0x80}), 0, api.ErrTag)
	}
}

// P3.1: what Check refuses, with the error that is asked first.
func TestCheckErrors(t *testing.T) {
	wrong := []struct {
		what, b string
		err     error
	}{
		{"nothing", "", api.ErrShort},
		{"a tag that isn't known", "07 00", api.ErrTag},
		{"a length that isn't as short as can be", "30 81 03 02 01 05", api.ErrForm},
		{"a byte behind it", "05 00 00", api.ErrForm},
		{"an element behind it", "30 03 02 01 05 05 00", api.ErrForm},
		{"something behind it, and something wrong in it", "30 02 00 00 05", api.ErrForm},
		{"a set that isn't in order, and something behind it", "31 04 05 00 01 00 05", api.ErrForm},
		{"a byte that lacks", "30 03 02 01", api.ErrShort},
		{"a tag alone in it", "30 01 02", api.ErrShort},
		{"a body that lacks in it, though there are bytes behind", "30 05 30 02 02 01 05", api.ErrShort},
		{"a tag that isn't known in it", "30 02 07 00", api.ErrTag},
		{"such a one behind another", "30 04 05 00 07 00", api.ErrTag},
		{"such a one deep in it", "30 06 a0 04 31 02 07 00", api.ErrTag},
		{"a length of its own sort in it", "30 04 02 81 01 05", api.ErrForm},
		{"a length without an end in it", "30 04 30 80 00 00", api.ErrForm},
		{"a long one in it", "30 04 04 82 ff fb", api.ErrLong},
		{"a tag ahead of a form", "30 07 07 00 30 80 04 82 ff", api.ErrTag},
		{"a form ahead of a tag", "30 06 30 02 05 81 07 00", api.ErrShort},
		{"what is in the first ahead of the second", "30 06 30 02 02 01 07 00", api.ErrShort},
		{"a set that falls", "31 06 02 01 05 02 01 04", api.ErrOrder},
		{"a set that falls by tags", "31 05 02 01 05 01 00", api.ErrOrder},
		{"a set that falls by lengths", "31 07 02 02 00 80 02 01 ff", api.ErrOrder},
		{"a set that falls as bytes do, not as numbers", "31 06 02 01 80 02 01 7f", api.ErrOrder},
		{"a set that falls at its end", "31 09 02 01 04 02 01 06 02 01 05", api.ErrOrder},
		{"a set that falls and rises again", "31 09 02 01 05 02 01 04 02 01 06", api.ErrOrder},
		{"a set that falls in a list", "30 06 31 04 05 00 01 00", api.ErrOrder},
		{"a set that falls in a context behind another", "a3 08 05 00 31 04 05 00 01 00", api.ErrOrder},
		{"a set that falls in a set", "31 06 31 04 05 00 01 00", api.ErrOrder},
		{"a set that falls ahead of a tag that isn't known", "31 06 05 00 01 00 07 00", api.ErrOrder},
		{"a tag that isn't known ahead of a set's order", "31 06 05 00 07 00 01 00", api.ErrTag},
		{"a tag that isn't known in what stands below", "31 06 31 00 30 02 07 00", api.ErrTag},
		{"bytes that lack in what stands below", "31 05 31 00 30 01 05", api.ErrShort},
	}
	for _, w := range wrong {
		holdCheck(t, w.what, bin(t, w.b), 0, w.err)
	}
	// a set's elements count from the whole of their bytes, however long
	one, other := byHand(0x04, append(message(300), 8)), byHand(0x04, append(message(300), 7))
	holdCheck(t, "a set that falls at the last byte", byHand(0x31, slices.Concat(one, other)), 0, api.ErrOrder)
	holdCheck(t, "a set that rises at the last byte", byHand(0x31, slices.Concat(other, one)), 2, nil)
}

// P3.1: MaxBytes bytes are looked at, more aren't.
func TestCheckLong(t *testing.T) {
	longest := byHand(0x30, byHand(0x04, message(most-4)))
	if len(longest) != 65534 {
		t.Fatalf("%d bytes", len(longest))
	}
	holdCheck(t, "the longest element", longest, 2, nil)
	holdCheck(t, "one with as many behind it as may be", append(slices.Clone(longest), 0, 0), 0, api.ErrForm)
	holdCheck(t, "one with one more behind it", append(slices.Clone(longest), 0, 0, 0), 0, api.ErrLong)
	for _, n := range []int{65535, 65536} {
		holdCheck(t, "many bytes", make([]byte, n), 0, api.ErrTag)
		holdCheck(t, "an element, and much", append([]byte{5, 0}, make([]byte, n-2)...), 0, api.ErrForm)
		holdCheck(t, "an element that is too long", append([]byte{4, 0x82, 0xff, byte(n - 4)}, make([]byte, n-4)...), 0, api.ErrLong)
	}
	for _, n := range []int{65537, 65538, 1 << 17, 1 << 20} {
		holdCheck(t, "more bytes", make([]byte, n), 0, api.ErrLong)
		holdCheck(t, "an element, and more", append([]byte{5, 0}, make([]byte, n-2)...), 0, api.ErrLong)
		holdCheck(t, "more bytes of a wrong length", append([]byte{5, 0x80}, make([]byte, n-2)...), 0, api.ErrLong)
	}
}

// P3.1: MaxDepth levels, of each sort, and no more; what is asked ahead of the depth, and behind it.
func TestCheckDepth(t *testing.T) {
	null := []byte{5, 0}
	for lists := range 40 {
		err := error(nil)
		if lists > 16 {
			err = api.ErrDepth
		}
		if lists > 0 {
			holdCheck(t, "lists of none", nest(lists-1, []byte{0x30, 0}), lists, err)
		}
		if lists > 15 {
			err = api.ErrDepth
		}
		holdCheck(t, "lists of a plain one", nest(lists, null), lists+1, err)
	}
	for _, tag := range made() {
		holdCheck(t, "16 levels", nest(14, byHand(tag, null)), 16, nil)
		holdCheck(t, "17 levels", nest(15, byHand(tag, null)), 0, api.ErrDepth)
		holdCheck(t, "16 levels of each tag", nest(15, byHand(tag, nil)), 16, nil)
	}
	deep := []struct {
		what, b string
		err     error
	}{
		{"a tag that isn't known, without a level", "07 00", api.ErrTag},
		{"a tag alone, without a level", "05", api.ErrShort},
		{"a wrong length, without a level", "05 80", api.ErrForm},
		{"a body that is too long, without a level", "04 82 ff ff", api.ErrLong},
		{"something wrong in what has no level", "30 02 07 00", api.ErrDepth},
		{"something wrong behind what has no level", "05 00 07 00", api.ErrDepth},
		{"something that falls behind what has no level", "05 00 01 00", api.ErrDepth},
	}
	for _, d := range deep {
		holdCheck(t, d.what, nest(15, byHand(0x31, bin(t, d.b))), 0, d.err)
	}
	holdCheck(t, "what is too deep ahead of a set's order", nest(14, bin(t, "31 06 31 00 30 02 05 00")), 0, api.ErrDepth)
	holdCheck(t, "a set's order ahead of what is too deep", nest(14, bin(t, "31 08 05 00 01 00 30 02 05 00")), 0, api.ErrOrder)
	holdCheck(t, "what is too deep behind others", byHand(0x30, slices.Concat(null, nest(14, null), nest(15, null))), 0, api.ErrDepth)
	holdCheck(t, "many levels, one behind the other", byHand(0x30, slices.Concat(nest(14, null), nest(14, null), null)), 16, nil)
	holdCheck(t, "as many lists as bytes can hold", nest(10000, null), 0, api.ErrDepth)
}

// P3.2: the same element with any other length is refused, wherever it stands.
func TestJustOneLength(t *testing.T) {
	for _, n := range []int{0, 1, 127, 128, 255, 256, 1000, most} {
		e := tlv.Element{Tag: api.TagOctets, Body: message(n)}
		b, err := tlv.Put(e)
		if err != nil || tlv.Check(b) != nil {
			t.Fatalf("of %d bytes: %v, %v", n, err, tlv.Check(b))
		}
		for count := 1; count <= 6; count++ {
			if n >= 1<<(8*count) {
				continue
			}
			other := padded(e.Tag, count, e.Body)
			if bytes.Equal(b, other) {
				continue
			}
			got, rest, err := tlv.Next(other)
			if !errors.Is(err, api.ErrForm) || got.Body != nil || rest != nil {
				t.Errorf("of %d bytes, with a length of %d: %v", n, count, err)
			}
			if len(other) < 1000 {
				holdCheck(t, "another length", other, 0, api.ErrForm)
				holdCheck(t, "another length in a list", byHand(0x30, other), 0, api.ErrForm)
			}
		}
	}
}

// wholes is all whole elements of size bytes of an alphabet, as trees.
func wholes(alphabet []byte, size int) []node {
	var list []node
	for _, tag := range alphabet {
		if slices.Contains(plain(), int(tag)) && size >= 2 && bytes.IndexByte(alphabet, byte(size-2)) >= 0 {
			each(size-2, alphabet, func(b []byte) { list = append(list, node{tag: int(tag), body: string(b)}) })
		}
		if slices.Contains(made(), int(tag)) && size >= 2 && bytes.IndexByte(alphabet, byte(size-2)) >= 0 {
			for _, of := range rows(alphabet, size-2) {
				n := node{tag: int(tag), of: of}
				if tag != 0x31 || slices.IsSortedFunc(of, func(a, b node) int { return bytes.Compare(a.bytes(), b.bytes()) }) {
					list = append(list, n)
				}
			}
		}
	}
	return list
}

// rows is all rows of whole elements that have size bytes together.
func rows(alphabet []byte, size int) [][]node {
	if size == 0 {
		return [][]node{nil}
	}
	var list [][]node
	for n := 2; n <= size; n++ {
		for _, first := range wholes(alphabet, n) {
			for _, others := range rows(alphabet, size-n) {
				list = append(list, append([]node{first}, others...))
			}
		}
	}
	return list
}

// P3.2: of all texts of a small alphabet just those count that a whole element has, and each has its own.
func TestJustOneText(t *testing.T) {
	alphabet := []byte{0x00, 0x01, 0x02, 0x03, 0x04, 0x05, 0x30, 0x31, 0x80, 0x81, 0xa0}
	for size := range 7 {
		trees := map[string]node{}
		for _, n := range wholes(alphabet, size) {
			b := string(n.bytes())
			if other, ok := trees[b]; ok {
				t.Fatalf("%x is %s and %s", b, n.text(), other.text())
			}
			trees[b] = n
		}
		found := 0
		each(size, alphabet, func(b []byte) {
			n, ok := trees[string(b)]
			if (tlv.Check(b) == nil) != ok || ok && tlv.Depth(b) != n.depth() || !ok && tlv.Depth(b) != 0 {
				t.Fatalf("%x: %v, %d levels", b, tlv.Check(b), tlv.Depth(b))
			}
			if ok {
				found++
				holdTree(t, b, n)
			}
			holdWhole(t, b)
		})
		if found != len(trees) || size > 1 && found == 0 {
			t.Errorf("of %d bytes: %d of %d whole elements", size, found, len(trees))
		}
	}
}

// holdTree holds what is read of a whole element against its tree.
func holdTree(t *testing.T, b []byte, n node) {
	t.Helper()
	if got := seen(t, b); got.text() != n.text() {
		t.Fatalf("%x: %s, wanted %s", b, got.text(), n.text())
	}
}

// seen is a whole element as Next and All tell it.
func seen(t *testing.T, b []byte) node {
	t.Helper()
	e, rest, err := tlv.Next(b)
	if err != nil || len(rest) > 0 {
		t.Fatalf("%x..: %d bytes behind it, %v", start(b), len(rest), err)
	}
	if !tlv.Made(e.Tag) {
		return node{tag: e.Tag, body: string(e.Body)}
	}
	n := node{tag: e.Tag}
	list, err := tlv.All(e.Body)
	if err != nil {
		t.Fatalf("%x..: %v", start(e.Body), err)
	}
	for _, inner := range list {
		its, err := tlv.Put(inner)
		if err != nil {
			t.Fatal(err)
		}
		n.of = append(n.of, seen(t, its))
	}
	return n
}

// holdWhole holds Check and Depth against what the chapter tells; what is whole has the text that it is read from.
func holdWhole(t *testing.T, b []byte) {
	t.Helper()
	depth, wantErr := wantCheck(b)
	if wantErr != nil {
		depth = 0
	}
	err := tlv.Check(b)
	if !errors.Is(err, wantErr) || tlv.Depth(b) != depth {
		t.Fatalf("%x..: %v, %d levels, wanted %v, %d", start(b), err, tlv.Depth(b), wantErr, depth)
	}
	if err != nil {
		return
	}
	if n := seen(t, b); !bytes.Equal(n.bytes(), b) {
		t.Fatalf("%x.. is read as %x..", start(b), start(n.bytes()))
	}
}

// grown is some whole element, of at most so many levels.
func grown(r *rand.Rand, levels int) node {
	if levels == 1 || r.Intn(3) == 0 {
		body := make([]byte, []int{0, 1, 2, 5, 130, 260}[r.Intn(6)])
		r.Read(body)
		return node{tag: plain()[r.Intn(len(plain()))], body: string(body)}
	}
	n := node{tag: made()[r.Intn(len(made()))]}
	if r.Intn(3) == 0 {
		n.tag = 0x31
	}
	for range r.Intn(4) {
		n.of = append(n.of, grown(r, levels-1))
	}
	if n.tag == 0x31 {
		slices.SortFunc(n.of, func(a, b node) int { return bytes.Compare(a.bytes(), b.bytes()) })
	}
	return n
}

// P3.1 and P3.2: greater elements of all sorts, and what becomes of them with a byte changed, put in or taken away.
func TestGrown(t *testing.T) {
	r := rand.New(rand.NewSource(3))
	heads := []byte{0x00, 0x02, 0x05, 0x30, 0x31, 0x7f, 0x80, 0x81, 0x82, 0x84, 0xa0, 0xff}
	for range 1000 {
		n := grown(r, 1+r.Intn(9))
		b := n.bytes()
		if len(b) > 2000 {
			continue
		}
		holdCheck(t, n.text(), b, n.depth(), nil)
		holdTree(t, b, n)
		for range 40 {
			i, c := r.Intn(len(b)), heads[r.Intn(len(heads))]
			changed := slices.Clone(b)
			changed[i] = c
			for _, other := range [][]byte{changed, slices.Insert(slices.Clone(b), i, c), slices.Delete(slices.Clone(b), i, i+1)} {
				holdWhole(t, other)
				holdNext(t, other)
			}
		}
	}
}

// The rules for every call: what is checked isn't changed.
func TestCheckChangesNothing(t *testing.T) {
	b := bin(t, "31 06 02 01 04 02 01 05 ff ff")
	text := slices.Clone(b)
	for n := range len(b) + 1 {
		tlv.Check(b[:n])
		tlv.Depth(b[:n])
	}
	if !bytes.Equal(b, text) {
		t.Error("it was changed")
	}
}

// FuzzRead holds whatever bytes against what the chapter tells.
func FuzzRead(f *testing.F) {
	for _, b := range []string{"", "\x30\x03\x02\x01\x05", "\x30\x81\x03\x02\x01\x05", "\x31\x06\x02\x01\x04\x02\x01\x05", "\x04\x82\xff\xfa", "\x05\x00\x07\x00"} {
		f.Add([]byte(b))
	}
	f.Add(nest(15, []byte{5, 0}))
	f.Add(nest(16, []byte{5, 0}))
	f.Fuzz(func(t *testing.T, b []byte) {
		holdNext(t, b)
		holdWhole(t, b)
	})
}
