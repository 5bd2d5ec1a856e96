package der_test

import (
	"bytes"
	"encoding/hex"
	"errors"
	"math"
	"math/rand"
	"slices"
	"strings"
	"testing"

	"bulla/api"
	"bulla/der"
	"bulla/tlv"
)

// hexed is what figures tell, blanks between them or not.
func hexed(t testing.TB, figures string) []byte {
	t.Helper()
	b, err := hex.DecodeString(strings.ReplaceAll(figures, " ", ""))
	if err != nil {
		t.Fatal(err)
	}
	return b
}

// errOwn is an error that isn't api's.
var errOwn = errors.New("one of the test's own")

// writing is a call of a Writer.
type writing struct {
	name string
	do   func(writes)
}

// P8.1: what is written by few calls, and which error comes of them.
func TestWriterExamples(t *testing.T) {
	examples := []struct {
		name string
		do   func(w *der.Writer)
		want string
		err  error
	}{
		{"nothing", func(w *der.Writer) {}, "", nil},
		{"the chapter's", func(w *der.Writer) { w.Open(api.TagList); w.Int(5); w.Close() }, "30 03 02 01 05", nil},
		{"0", func(w *der.Writer) { w.Int(0) }, "02 01 00", nil},
		{"128", func(w *der.Writer) { w.Int(128) }, "02 02 00 80", nil},
		{"-129", func(w *der.Writer) { w.Int(-129) }, "02 02 ff 7f", nil},
		{"the greatest", func(w *der.Writer) { w.Int(math.MaxInt) }, "02 08 7f ff ff ff ff ff ff ff", nil},
		{"the least", func(w *der.Writer) { w.Int(math.MinInt) }, "02 08 80 00 00 00 00 00 00 00", nil},
		{"a choice", func(w *der.Writer) { w.Enum(3) }, "0a 01 03", nil},
		{"a choice below 0", func(w *der.Writer) { w.Enum(-1) }, "0a 01 ff", nil},
		{"true", func(w *der.Writer) { w.Bool(true) }, "01 01 ff", nil},
		{"false", func(w *der.Writer) { w.Bool(false) }, "01 01 00", nil},
		{"bytes", func(w *der.Writer) { w.Octets([]byte{7, 8}) }, "04 02 07 08", nil},
		{"no bytes", func(w *der.Writer) { w.Octets(nil) }, "04 00", nil},
		{"a text", func(w *der.Writer) { w.Text("web", 3) }, "0c 03 77 65 62", nil},
		{"a text of more bytes than runes", func(w *der.Writer) { w.Text("\u00e9", 2) }, "0c 02 c3 a9", nil},
		{"no text", func(w *der.Writer) { w.Text("", 3) }, "", api.ErrShort},
		{"a long text", func(w *der.Writer) { w.Text("web", 2) }, "", api.ErrLong},
		{"a text below 0", func(w *der.Writer) { w.Text("web", -1) }, "", api.ErrLong},
		{"no plain text", func(w *der.Writer) { w.Text("a\nb", 3) }, "", api.ErrText},
		{"an identifier", func(w *der.Writer) { w.OID("1.2.840") }, "06 03 2a 86 48", nil},
		{"no identifier's text", func(w *der.Writer) { w.OID("1.2.") }, "", api.ErrForm},
		{"no identifier", func(w *der.Writer) { w.OID("3.1") }, "", api.ErrRange},
		{"a moment", func(w *der.Writer) { w.Moment(951782400) }, "18 0f 32 30 30 30 30 32 32 39 30 30 30 30 30 30 5a", nil},
		{"a moment ahead of all", func(w *der.Writer) { w.Moment(-1) }, "", api.ErrRange},
		{"a moment behind all", func(w *der.Writer) { w.Moment(api.MaxTime + 1) }, "", api.ErrRange},
		{"no flags", func(w *der.Writer) { w.Flags(0) }, "03 01 00", nil},
		{"flags", func(w *der.Writer) { w.Flags(9) }, "03 02 04 90", nil},
		{"all flags", func(w *der.Writer) { w.Flags(1<<15 - 1) }, "03 03 01 ff fe", nil},
		{"a flag too many", func(w *der.Writer) { w.Flags(1 << 15) }, "", api.ErrRange},
		{"flags below 0", func(w *der.Writer) { w.Flags(-1) }, "", api.ErrRange},
		{"an element", func(w *der.Writer) { w.Raw([]byte{5, 0}) }, "05 00", nil},
		{"no element", func(w *der.Writer) { w.Raw(nil) }, "", api.ErrShort},
		{"two elements", func(w *der.Writer) { w.Raw([]byte{5, 0, 5, 0}) }, "", api.ErrForm},
		{"an unknown element", func(w *der.Writer) { w.Raw([]byte{7, 0}) }, "", api.ErrTag},
		{"an element that isn't in order", func(w *der.Writer) { w.Raw([]byte{0x31, 6, 2, 1, 5, 2, 1, 4}) }, "", api.ErrOrder},
		{"a body that no value has", func(w *der.Writer) { w.Raw([]byte{1, 1, 7}) }, "01 01 07", nil},
		{"one behind the other", func(w *der.Writer) { w.Int(1); w.Bool(true); w.Octets(nil) }, "02 01 01 01 01 ff 04 00", nil},
		{"an empty list", func(w *der.Writer) { w.Open(api.TagList); w.Close() }, "30 00", nil},
		{"an empty set", func(w *der.Writer) { w.Open(api.TagSet); w.Close() }, "31 00", nil},
		{"the first context", func(w *der.Writer) { w.Open(api.TagContext); w.Int(1); w.Close() }, "a0 03 02 01 01", nil},
		{"the last context", func(w *der.Writer) { w.Open(api.TagContext + 15); w.Int(1); w.Close() }, "af 03 02 01 01", nil},
		{"a context too many", func(w *der.Writer) { w.Open(api.TagContext + 16) }, "", api.ErrTag},
		{"a list stays as it stands", func(w *der.Writer) { w.Open(api.TagList); w.Int(5); w.Int(4); w.Int(5); w.Close() }, "30 09 02 01 05 02 01 04 02 01 05", nil},
		{"a context stays as it stands", func(w *der.Writer) { w.Open(api.TagContext + 1); w.Int(5); w.Int(4); w.Close() }, "a1 06 02 01 05 02 01 04", nil},
		{"a set is put in order", func(w *der.Writer) {
			w.Open(api.TagSet)
			w.Int(5)
			w.Int(4)
			w.Int(5)
			w.Bool(true)
			w.Close()
		}, "31 0c 01 01 ff 02 01 04 02 01 05 02 01 05", nil},
		{"a set of lists", func(w *der.Writer) {
			w.Open(api.TagSet)
			for _, n := range []int{300, 2, -1} {
				w.Open(api.TagList)
				w.Int(n)
				w.Int(0)
				w.Close()
			}
			w.Close()
		}, "31 19 30 06 02 01 02 02 01 00 30 06 02 01 ff 02 01 00 30 07 02 02 01 2c 02 01 00", nil},
		{"a set's raw elements", func(w *der.Writer) { w.Open(api.TagSet); w.Raw([]byte{5, 0}); w.Raw([]byte{4, 1, 9}); w.Close() }, "31 05 04 01 09 05 00", nil},
		{"behind a list", func(w *der.Writer) { w.Int(1); w.Open(api.TagList); w.Close(); w.Int(2) }, "02 01 01 30 00 02 01 02", nil},
		{"a list in a list", func(w *der.Writer) {
			w.Open(api.TagList)
			w.Int(1)
			w.Open(api.TagList)
			w.Int(2)
			w.Close()
			w.Int(3)
			w.Close()
		}, "30 0b 02 01 01 30 03 02 01 02 02 01 03", nil},
		{"one is open", func(w *der.Writer) { w.Open(api.TagList) }, "", api.ErrState},
		{"one is open yet", func(w *der.Writer) { w.Open(api.TagList); w.Open(api.TagList); w.Close() }, "", api.ErrState},
		{"none is open", func(w *der.Writer) { w.Close() }, "", api.ErrState},
		{"none is open any more", func(w *der.Writer) { w.Open(api.TagList); w.Close(); w.Close() }, "", api.ErrState},
		{"an error of its own", func(w *der.Writer) { w.Fail(errOwn) }, "", errOwn},
		{"no error", func(w *der.Writer) { w.Fail(nil); w.Int(5) }, "02 01 05", nil},
		{"the first error", func(w *der.Writer) { w.Moment(-1); w.OID(""); w.Fail(errOwn) }, "", api.ErrRange},
		{"the first error behind none", func(w *der.Writer) { w.Fail(nil); w.Fail(errOwn); w.Fail(nil); w.Close() }, "", errOwn},
		{"an error while one is open", func(w *der.Writer) { w.Open(api.TagList); w.Fail(errOwn) }, "", errOwn},
	}
	for _, e := range examples {
		var w der.Writer
		e.do(&w)
		got, err := w.Done()
		if !same(err, e.err) || !bytes.Equal(got, hexed(t, e.want)) || err != nil && got != nil {
			t.Errorf("%s: %x, %v, wanted %s, %v", e.name, got, err, e.want, e.err)
		}
	}
}

// P8.1: what is opened is made of others: of all tags, and of numbers that are none.
func TestOpenTags(t *testing.T) {
	tags := []int{math.MinInt, math.MaxInt, 1<<32 + 48, 1<<32 + 160, -48, 256 + 48, 65536 + 49}
	for tag := -300; tag <= 600; tag++ {
		tags = append(tags, tag)
	}
	for _, tag := range tags {
		var w der.Writer
		w.Open(tag)
		w.Int(5)
		w.Close()
		got, err := w.Done()
		if isMade(tag) && (err != nil || !bytes.Equal(got, []byte{byte(tag), 3, 2, 1, 5})) || !isMade(tag) && (!errors.Is(err, api.ErrTag) || got != nil) {
			t.Errorf("%d: %x, %v", tag, got, err)
		}
	}
}

// P8.1: at most MaxDepth are open at once; a wrong tag is told ahead of that, and closing makes room.
func TestOpenDepth(t *testing.T) {
	for opened := range 20 {
		for _, tag := range []int{api.TagList, api.TagSet, api.TagContext + 3, api.TagInt} {
			var w der.Writer
			for range opened {
				w.Open(api.TagList)
			}
			w.Open(tag)
			want := api.ErrState // one is open
			if opened >= 16 {
				want = api.ErrDepth
			}
			if tag == api.TagInt && opened <= 16 {
				want = api.ErrTag
			}
			if _, err := w.Done(); !same(err, want) {
				t.Errorf("%d are open, and %d: %v, wanted %v", opened, tag, err, want)
			}
		}
	}
	var w der.Writer
	for range 16 {
		w.Open(api.TagList)
	}
	for range 3 {
		w.Close()
		w.Open(api.TagSet)
	}
	for range 16 {
		w.Close()
	}
	b, err := w.Done()
	if err != nil || tlv.Depth(b) != 16 || tlv.Check(b) != nil {
		t.Errorf("%x, %v of %d levels", b, err, tlv.Depth(b))
	}
}

// P8.1: sizes about a body's and about a message's.
func TestWriterSizes(t *testing.T) {
	octets := func(n int) []byte { return bytes.Repeat([]byte{7}, n) }
	sizes := []struct {
		name string
		do   func(w *der.Writer)
		size int
		err  error
	}{
		{"the longest body", func(w *der.Writer) { w.Octets(octets(65530)) }, 65534, nil},
		{"one longer", func(w *der.Writer) { w.Octets(octets(65531)) }, 0, api.ErrLong},
		{"far longer", func(w *der.Writer) { w.Octets(octets(1 << 20)) }, 0, api.ErrLong},
		{"the longest text", func(w *der.Writer) { w.Text(string(octetsOf('a', 65530)), 1<<20) }, 65534, nil},
		{"one longer text", func(w *der.Writer) { w.Text(string(octetsOf('a', 65531)), 1<<20) }, 0, api.ErrLong},
		{"the longest list", func(w *der.Writer) { w.Open(48); w.Octets(octets(65526)); w.Close() }, 65534, nil},
		{"one longer list", func(w *der.Writer) { w.Open(48); w.Octets(octets(65527)); w.Close() }, 0, api.ErrLong},
		{"one longer set", func(w *der.Writer) { w.Open(49); w.Octets(octets(65527)); w.Close() }, 0, api.ErrLong},
		{"a list of two that is one longer", func(w *der.Writer) { w.Open(48); w.Octets(octets(65525)); w.Raw([]byte{5, 0}); w.Close() }, 0, api.ErrLong},
		{"a list that is open is as long as it is", func(w *der.Writer) { w.Open(48); w.Octets(octets(65530)); w.Octets(octets(65530)) }, 0, api.ErrState},
		{"the error comes when it's closed", func(w *der.Writer) {
			w.Open(48)
			w.Octets(octets(65530))
			w.Octets(octets(65530))
			w.Close()
			w.Fail(errOwn)
		}, 0, api.ErrLong},
		{"the longest message", func(w *der.Writer) { w.Octets(octets(65530)); w.Raw([]byte{5, 0}) }, 65536, nil},
		{"one longer message", func(w *der.Writer) { w.Octets(octets(65530)); w.Int(0) }, 0, api.ErrLong},
		{"the longest raw element", func(w *der.Writer) { w.Raw(byHand(4, octets(65530))) }, 65534, nil},
		{"one longer raw element", func(w *der.Writer) { w.Raw(append([]byte{4, 0x82, 0xff, 0xfb}, octets(65531)...)) }, 0, api.ErrLong},
		{"a raw element that is longer than a message", func(w *der.Writer) { w.Raw(octetsOf(0, 65537)) }, 0, api.ErrLong},
		{"lengths of one byte", func(w *der.Writer) { w.Open(48); w.Octets(octets(125)); w.Close() }, 129, nil},
		{"lengths of two bytes", func(w *der.Writer) { w.Open(48); w.Octets(octets(126)); w.Close() }, 131, nil},
		{"lengths of three bytes", func(w *der.Writer) { w.Open(48); w.Octets(octets(253)); w.Close() }, 260, nil},
	}
	for _, s := range sizes {
		var w der.Writer
		s.do(&w)
		if b, err := w.Done(); !same(err, s.err) || len(b) != s.size {
			t.Errorf("%s: %d bytes, %v, wanted %d, %v", s.name, len(b), err, s.size, s.err)
		}
	}
}

// octetsOf is one byte as often.
func octetsOf(c byte, n int) []byte { return bytes.Repeat([]byte{c}, n) }

// P8.1: a message that is too long is told by Done alone: with one that is open it's ErrState, and what is written behind it still has its own errors.
func TestDoneTellsLast(t *testing.T) {
	var w der.Writer
	w.Octets(octetsOf(7, 65530))
	w.Int(0)
	for range 2 {
		if b, err := w.Done(); !errors.Is(err, api.ErrLong) || b != nil {
			t.Errorf("too long: %d bytes, %v", len(b), err)
		}
	}
	w.Open(api.TagList)
	if _, err := w.Done(); !errors.Is(err, api.ErrState) {
		t.Errorf("too long, and open: %v", err)
	}
	w.Close()
	if _, err := w.Done(); !errors.Is(err, api.ErrLong) {
		t.Errorf("too long, and closed: %v", err)
	}
	w.Moment(-1)
	if _, err := w.Done(); !errors.Is(err, api.ErrRange) {
		t.Errorf("too long, and no moment: %v", err)
	}
}

// P8.1: Done changes nothing: what is done is told again, and what is written goes on behind it, also behind its own error.
func TestDoneAgain(t *testing.T) {
	var w der.Writer
	w.Int(1)
	w.Open(api.TagList)
	for range 3 {
		if b, err := w.Done(); b != nil || !errors.Is(err, api.ErrState) {
			t.Fatalf("one is open: %x, %v", b, err)
		}
	}
	w.Int(2)
	w.Close()
	for range 3 {
		if b, err := w.Done(); err != nil || !bytes.Equal(b, hexed(t, "02 01 01 30 03 02 01 02")) {
			t.Fatalf("it is closed: %x, %v", b, err)
		}
	}
	w.Int(3)
	if b, err := w.Done(); err != nil || !bytes.Equal(b, hexed(t, "02 01 01 30 03 02 01 02 02 01 03")) {
		t.Fatalf("it goes on: %x, %v", b, err)
	}
}

// few is the calls of a Writer out of which orders are made.
func few() []writing {
	return []writing{
		{"a list", func(w writes) { w.Open(48) }},
		{"a set", func(w writes) { w.Open(49) }},
		{"no list", func(w writes) { w.Open(4) }},
		{"close", func(w writes) { w.Close() }},
		{"5", func(w writes) { w.Int(5) }},
		{"true", func(w writes) { w.Bool(true) }},
		{"a raw list", func(w writes) { w.Raw([]byte{48, 2, 5, 0}) }},
		{"no moment", func(w writes) { w.Moment(-1) }},
		{"fail", func(w writes) { w.Fail(errOwn) }},
		{"no fail", func(w writes) { w.Fail(nil) }},
	}
}

// many is calls of a Writer with all kinds of values, right ones and wrong ones; the wrong ones come at the end.
func many() ([]writing, int) {
	list := []writing{
		{"a list", func(w writes) { w.Open(48) }}, {"a set", func(w writes) { w.Open(49) }}, {"a context", func(w writes) { w.Open(167) }},
		{"close", func(w writes) { w.Close() }}, {"close", func(w writes) { w.Close() }}, {"close", func(w writes) { w.Close() }},
		{"no fail", func(w writes) { w.Fail(nil) }}, {"null", func(w writes) { w.Raw([]byte{5, 0}) }},
		{"a raw set", func(w writes) { w.Raw([]byte{49, 5, 2, 1, 5, 5, 0}) }}, {"true", func(w writes) { w.Bool(true) }}, {"false", func(w writes) { w.Bool(false) }},
		{"no bytes", func(w writes) { w.Octets(nil) }}, {"bytes", func(w writes) { w.Octets([]byte{1, 2, 3}) }}, {"127 bytes", func(w writes) { w.Octets(octetsOf(1, 127)) }},
		{"128 bytes", func(w writes) { w.Octets(octetsOf(1, 128)) }}, {"300 bytes", func(w writes) { w.Octets(octetsOf(1, 300)) }},
		{"web", func(w writes) { w.Text("web", 3) }}, {"64 bytes", func(w writes) { w.Text(strings.Repeat("a", 64), 64) }},
		{"an identifier", func(w writes) { w.OID("1.3.9999.1.1") }}, {"the beginning", func(w writes) { w.Moment(0) }}, {"the end", func(w writes) { w.Moment(api.MaxTime) }},
		{"no flags", func(w writes) { w.Flags(0) }}, {"flags", func(w writes) { w.Flags(15) }}, {"more flags", func(w writes) { w.Flags(256) }},
	}
	for _, n := range []int{0, 1, -1, 127, 128, -128, -129, 1 << 40, math.MaxInt, math.MinInt} {
		list = append(list, writing{"a number", func(w writes) { w.Int(n) }}, writing{"a choice", func(w writes) { w.Enum(n) }})
	}
	right := len(list)
	return append(list,
		writing{"no list", func(w writes) { w.Open(2) }}, writing{"no tag", func(w writes) { w.Open(-1) }}, writing{"no text", func(w writes) { w.Text("", 1) }},
		writing{"a long text", func(w writes) { w.Text("web", 2) }}, writing{"no plain text", func(w writes) { w.Text("\x7f", 1) }}, writing{"no identifier", func(w writes) { w.OID("1") }},
		writing{"no moment", func(w writes) { w.Moment(api.MaxTime + 1) }}, writing{"no mask", func(w writes) { w.Flags(-1) }}, writing{"no element", func(w writes) { w.Raw([]byte{5, 1}) }},
		writing{"fail", func(w writes) { w.Fail(errOwn) }}, writing{"too long", func(w writes) { w.Octets(octetsOf(1, 65531)) }},
	), right
}

// holdDone holds what two Writers have done against one another.
func holdDone(t *testing.T, w *der.Writer, told *toldWriter, names func() []string) {
	t.Helper()
	got, err := w.Done()
	want, wanted := told.Done()
	if !same(err, wanted) || !bytes.Equal(got, want) || err != nil && got != nil {
		t.Fatalf("%q: %x, %v, wanted %x, %v", names(), got, err, want, wanted)
	}
}

// P8.1: all orders of up to six of few calls; Done is asked behind each.
func TestWriterOrders(t *testing.T) {
	calls := few()
	most := 6
	if testing.Short() {
		most = 4
	}
	for n := range most + 1 {
		order := make([]int, n)
		for {
			holdOrder(t, calls, order)
			if !step(order, len(calls)) {
				break
			}
		}
	}
}

// step is the next of all orders of so many numbers below n; it tells whether there is one.
func step(order []int, n int) bool {
	for i := range order {
		if order[i]++; order[i] < n {
			return true
		}
		order[i] = 0
	}
	return false
}

// holdOrder holds an order of calls against what the chapter tells.
func holdOrder(t *testing.T, calls []writing, order []int) {
	t.Helper()
	var w der.Writer
	var told toldWriter
	names := func() []string {
		var list []string
		for _, i := range order {
			list = append(list, calls[i].name)
		}
		return list
	}
	for _, i := range order {
		calls[i].do(&w)
		calls[i].do(&told)
	}
	holdDone(t, &w, &told, names)
}

// P8.1: long orders of all kinds of calls, with a wrong one now and then.
func TestLongWriterOrders(t *testing.T) {
	calls, right := many()
	r := rand.New(rand.NewSource(8))
	for round := range 6000 {
		var w der.Writer
		var told toldWriter
		var order []string
		for range r.Intn(60) {
			i := r.Intn(right)
			if round%3 == 0 && r.Intn(30) == 0 {
				i = r.Intn(len(calls))
			}
			if calls[i].name == "close" && len(told.open) == 0 && r.Intn(10) > 0 {
				continue
			}
			order = append(order, calls[i].name)
			calls[i].do(&w)
			calls[i].do(&told)
			holdDone(t, &w, &told, func() []string { return order })
		}
		for len(told.open) > 0 && told.err == nil {
			w.Close()
			told.Close()
			holdDone(t, &w, &told, func() []string { return order })
		}
	}
}

// P8.1: behind each kind of first error no call does anything, whichever it is, and the error stays.
func TestWriterStaysFailed(t *testing.T) {
	calls, right := many()
	for _, wrong := range append(calls[right:], writing{"none is open", func(w writes) { w.Close() }}) {
		for _, opened := range []int{0, 1} {
			var w der.Writer
			w.Int(1)
			for range opened {
				w.Open(api.TagList)
			}
			if opened > 0 && wrong.name == "none is open" {
				w.Close()
			}
			wrong.do(&w)
			_, first := w.Done()
			if first == nil || errors.Is(first, api.ErrState) && wrong.name != "none is open" {
				t.Fatalf("%s: %v", wrong.name, first)
			}
			for _, c := range calls {
				c.do(&w)
				if b, err := w.Done(); b != nil || !same(err, first) {
					t.Fatalf("%s, and then %s: %x, %v, wanted %v", wrong.name, c.name, b, err, first)
				}
			}
		}
	}
}

// The rules for every call: what is given isn't changed nor kept, and what is answered is the caller's, with the room behind it.
func TestWriterKeepsNothing(t *testing.T) {
	room := []byte{1, 2, 3, 4}
	raw := append([]byte{4, 2, 1, 2}, 9, 9)
	keptRoom, keptRaw := slices.Clone(room), slices.Clone(raw)
	for _, tag := range []int{api.TagList, api.TagSet, 0} {
		var w der.Writer
		if tag != 0 {
			w.Open(tag)
		}
		w.Octets(room[:2])
		w.Raw(raw[:4])
		w.Octets(nil)
		for i := range room {
			room[i] ^= 0x55
		}
		for i := range raw {
			raw[i] ^= 0x55
		}
		if tag != 0 {
			w.Close()
		}
		want := hexed(t, "04 02 01 02 04 02 01 02 04 00")
		if tag == api.TagSet {
			want = hexed(t, "04 00 04 02 01 02 04 02 01 02")
		}
		if tag != 0 {
			want = byHand(tag, want)
		}
		for range 2 {
			got, err := w.Done()
			if err != nil || !bytes.Equal(got, want) {
				t.Fatalf("%x, %v, wanted %x", got, err, want)
			}
			for i := range got[:cap(got)] {
				got[:cap(got)][i] ^= 0x55
			}
		}
		w.Int(7)
		if got, err := w.Done(); err != nil || !bytes.Equal(got, append(want, 2, 1, 7)) {
			t.Fatalf("behind it: %x, %v", got, err)
		}
		for i := range room {
			room[i] ^= 0x55
		}
		for i := range raw {
			raw[i] ^= 0x55
		}
		if !bytes.Equal(room, keptRoom) || !bytes.Equal(raw, keptRaw) {
			t.Fatalf("what was given was changed: %x, %x", room, raw)
		}
	}
}

// The rules for every call: two Writers are apart.
func TestWritersAreApart(t *testing.T) {
	var a, b der.Writer
	a.Open(api.TagList)
	a.Int(1)
	b.Fail(errOwn)
	a.Close()
	if got, err := a.Done(); err != nil || !bytes.Equal(got, hexed(t, "30 03 02 01 01")) {
		t.Errorf("%x, %v", got, err)
	}
	if got, err := b.Done(); got != nil || !errors.Is(err, errOwn) {
		t.Errorf("%x, %v", got, err)
	}
}

// FuzzWrite holds whatever orders of calls against what the chapter tells.
func FuzzWrite(f *testing.F) {
	f.Add([]byte{0, 20, 3})
	f.Add([]byte{1, 0, 24, 3, 22, 20, 3, 7, 45})
	f.Fuzz(func(t *testing.T, order []byte) {
		calls, _ := many()
		var w der.Writer
		var told toldWriter
		for i, c := range order {
			call := calls[int(c)%len(calls)]
			call.do(&w)
			call.do(&told)
			holdDone(t, &w, &told, func() []string { return []string{string(order[:i+1])} })
		}
	})
}
