package names_test

import (
	"bytes"
	"encoding/hex"
	"errors"
	"math/rand"
	"slices"
	"strings"
	"testing"

	"bulla/api"
	"bulla/der"
	"bulla/names"
)

var (
	web  = api.Subject{Kind: api.Workload, Space: "shop", Name: "web"}
	node = api.Subject{Kind: api.Node, Name: "n1"}
)

// bin is the bytes of figures with blanks between.
func bin(t testing.TB, figures string) []byte {
	t.Helper()
	b, err := hex.DecodeString(strings.ReplaceAll(figures, " ", ""))
	if err != nil {
		t.Fatal(err)
	}
	return b
}

// P9.1: elements that are written out.
func TestElementExamples(t *testing.T) {
	examples := []struct {
		subject api.Subject
		figures string
	}{
		{node, "30 1c 30 0d 06 05 2b ce 0f 01 01 0c 04 6e 6f 64 65 30 0b 06 05 2b ce 0f 01 03 0c 02 6e 31"},
		{web, "30 30 30 11 06 05 2b ce 0f 01 01 0c 08 77 6f 72 6b 6c 6f 61 64 30 0d 06 05 2b ce 0f 01 02 0c 04 73 68 6f 70 30 0c 06 05 2b ce 0f 01 03 0c 03 77 65 62"},
		{api.Subject{Kind: api.Operator, Name: "e"}, "30 1f 30 11 06 05 2b ce 0f 01 01 0c 08 6f 70 65 72 61 74 6f 72 30 0a 06 05 2b ce 0f 01 03 0c 01 65"},
		{api.Subject{Kind: api.Boot, Name: "e"}, "30 1b 30 0d 06 05 2b ce 0f 01 01 0c 04 62 6f 6f 74 30 0a 06 05 2b ce 0f 01 03 0c 01 65"},
		{api.Subject{Kind: api.CA, Name: "e"}, "30 19 30 0b 06 05 2b ce 0f 01 01 0c 02 63 61 30 0a 06 05 2b ce 0f 01 03 0c 01 65"},
	}
	for _, e := range examples {
		want := bin(t, e.figures)
		if got, err := names.Bytes(e.subject); err != nil || !bytes.Equal(got, want) {
			t.Errorf("%v: %x, %v, wanted %x", e.subject, got, err, want)
		}
		if got, err := names.Read(want); err != nil || got != e.subject {
			t.Errorf("%x: %v, %v, wanted %v", want, got, err, e.subject)
		}
	}
}

// What a part is made of, as figures.
const (
	kindOID  = "06 05 2b ce 0f 01 01 "
	spaceOID = "06 05 2b ce 0f 01 02 "
	nameOID  = "06 05 2b ce 0f 01 03 "
	otherOID = "06 05 2b ce 0f 01 04 "
	nodeText = "0c 04 6e 6f 64 65 "
	nText    = "0c 01 6e "
)

// list is the figures of a list of what figures are.
func list(t testing.TB, figures ...string) string {
	t.Helper()
	return hex.EncodeToString(byHand(0x30, bin(t, strings.Join(figures, "")))) + " "
}

// P9.1: bytes that aren't a right subject's, with the error that comes first.
func TestElementErrors(t *testing.T) {
	kind, name := list(t, kindOID, nodeText), list(t, nameOID, nText)
	other := list(t, otherOID, nText)
	plain := func(s string) string { return hex.EncodeToString(byHand(12, []byte(s))) }
	wrong := []struct {
		what, figures string
		err           error
	}{
		{"no bytes", "", api.ErrShort},
		{"a tag that isn't known", "07 00", api.ErrTag},
		{"no whole element", "30 05 30 01", api.ErrShort},
		{"a length that could be shorter", "30 81 00", api.ErrForm},
		{"a second element behind it", list(t, kind, name) + "05 00", api.ErrForm},
		{"a second one twice", strings.Repeat(list(t, kind, name), 2), api.ErrForm},
		{"a part's part that isn't whole", list(t, list(t, kindOID, "0c 09 6e"), name), api.ErrShort},
		{"too deep", deep(t, 17), api.ErrDepth},
		{"a set", hex.EncodeToString(byHand(0x31, bin(t, kind+name))), api.ErrOrder},
		{"a set in order", hex.EncodeToString(byHand(0x31, bin(t, name+kind))), api.ErrTag},
		{"another tag", "a0 00", api.ErrTag},
		{"a text alone", nText, api.ErrTag},
		{"no parts", "30 00", api.ErrName},
		{"a part that is no list", list(t, kindOID), api.ErrTag},
		{"a part that is a set", list(t, "31 0a", nText, kindOID), api.ErrOrder},
		{"a part that is a set in order", list(t, "31 0a", kindOID, nText), api.ErrTag},
		{"an empty part", list(t, "30 00"), api.ErrShort},
		{"a part that begins with its text", list(t, list(t, nodeText, kindOID)), api.ErrTag},
		{"a part without a text", list(t, list(t, kindOID)), api.ErrShort},
		{"a part with two identifiers", list(t, list(t, kindOID, kindOID)), api.ErrTag},
		{"a part with bytes for a text", list(t, list(t, kindOID, "04 04 6e 6f 64 65")), api.ErrTag},
		{"a part with more behind its text", list(t, list(t, kindOID, nodeText, "05 00"), name), api.ErrForm},
		{"a part with two texts", list(t, list(t, kindOID, nodeText, nodeText), name), api.ErrForm},
		{"an identifier of no bytes", list(t, list(t, "06 00", nodeText), name), api.ErrShort},
		{"an identifier that lacks its end", list(t, list(t, "06 05 2b ce 0f 01 81", nodeText), name), api.ErrShort},
		{"an identifier with a needless byte", list(t, list(t, "06 06 2b ce 0f 01 80 01", nodeText), name), api.ErrForm},
		{"an identifier out of its range", list(t, list(t, "06 06 2b 88 80 80 80 00", nodeText), name), api.ErrRange},
		{"an identifier of too many arcs", list(t, list(t, "06 10 2b 01 01 01 01 01 01 01 01 01 01 01 01 01 01 01", nodeText), name), api.ErrRange},
		{"an empty text", list(t, list(t, kindOID, "0c 00"), name), api.ErrShort},
		{"a text of 64 bytes", list(t, list(t, kindOID, plain(strings.Repeat("n", 64))), name), api.ErrName},
		{"a text of 65 bytes", list(t, list(t, kindOID, plain(strings.Repeat("n", 65))), name), api.ErrLong},
		{"a text that isn't plain", list(t, list(t, kindOID, "0c 01 0a"), name), api.ErrText},
		{"a text that isn't UTF-8", list(t, list(t, kindOID, "0c 01 ff"), name), api.ErrText},
		{"a text of 65 bytes that isn't plain", list(t, list(t, kindOID, plain(strings.Repeat("\n", 65))), name), api.ErrLong},
		{"the identifier's error ahead of the text's", list(t, list(t, "06 06 2b ce 0f 01 80 01", "0c 00"), name), api.ErrForm},
		{"the text's error ahead of what stands behind it", list(t, list(t, kindOID, "0c 01 0a", "05 00"), name), api.ErrText},
		{"the first part's error ahead of the second one's", list(t, list(t, kindOID, "0c 01 0a"), list(t, nameOID)), api.ErrText},
		{"the second part's error ahead of the first one's kind", list(t, list(t, kindOID, nText), list(t, nameOID)), api.ErrShort},
		{"eight parts", list(t, kind, name, strings.Repeat(other, 6)), api.ErrName},
		{"nine parts", list(t, kind, name, strings.Repeat(other, 7)), api.ErrLong},
		{"nine parts, the last one wrong", list(t, kind, name, strings.Repeat(other, 6), "05 00"), api.ErrLong},
		{"nine parts, the eighth one wrong", list(t, kind, name, strings.Repeat(other, 5), "05 00", other), api.ErrTag},
		{"nine parts, one of them of no kind", list(t, list(t, kindOID, nText), name, strings.Repeat(other, 7)), api.ErrLong},
		{"a kind that is none", list(t, list(t, kindOID, nText), name), api.ErrName},
		{"a name that is no label", list(t, kind, list(t, nameOID, "0c 01 2d")), api.ErrName},
		{"a kind alone", list(t, kind), api.ErrName},
		{"a name alone", list(t, name), api.ErrName},
		{"another order", list(t, name, kind), api.ErrName},
		{"a node in a namespace", list(t, kind, list(t, spaceOID, nText), name), api.ErrName},
		{"a part too many", list(t, kind, name, other), api.ErrName},
	}
	for _, w := range wrong {
		b := bin(t, w.figures)
		if got, err := names.Read(b); !errors.Is(err, w.err) || got != (api.Subject{}) {
			t.Errorf("%s: %#v, %v, wanted %v", w.what, got, err, w.err)
		}
		holdBytes(t, b)
	}
}

// deep is the figures of lists in one another.
func deep(t testing.TB, levels int) string {
	figures := ""
	for range levels {
		figures = list(t, figures)
	}
	return figures
}

// P9.1: more bytes than an element may have.
func TestElementTooLong(t *testing.T) {
	b, _ := names.Bytes(node)
	for _, n := range []int{api.MaxBytes - len(b), api.MaxBytes + 1 - len(b)} {
		want := api.ErrForm
		if len(b)+n > api.MaxBytes {
			want = api.ErrLong
		}
		more := append(bytes.Clone(b), make([]byte, n)...)
		if got, err := names.Read(more); !errors.Is(err, want) || got != (api.Subject{}) {
			t.Errorf("%d bytes: %v, %v, wanted %v", len(more), got, err, want)
		}
	}
}

// P9.1: bytes of right subjects, changed byte by byte, cut, and with a byte put in.
func TestElementChanged(t *testing.T) {
	its := []byte{0, 1, 2, 3, 4, 5, 6, 12, 13, 0x2b, '-', 'a', 0x30, 0x31, 0x7f, 0x80, 0x81, 0xa0, 0xce, 0xff}
	for _, s := range append(someRight(rand.New(rand.NewSource(93)), 60), node, web) {
		b := bytesByHand(s)
		for i := range b {
			holdBytes(t, b[:i])
			holdBytes(t, b[i:])
			for _, c := range its {
				changed := bytes.Clone(b)
				changed[i] = c
				holdBytes(t, changed)
				changed[i] = b[i] ^ c
				holdBytes(t, changed)
				holdBytes(t, slices.Insert(bytes.Clone(b), i, c))
			}
			holdBytes(t, slices.Delete(bytes.Clone(b), i, i+1))
		}
	}
	b := bytesByHand(web)
	for i := range b {
		for c := range 256 {
			changed := bytes.Clone(b)
			changed[i] = byte(c)
			holdBytes(t, changed)
		}
	}
}

// chanceElement is an element like a subject's, with things amiss here and there.
func chanceElement(r *rand.Rand) []byte {
	tag := func(its int) int {
		if r.Intn(40) == 0 {
			return []int{1, 2, 4, 5, 6, 12, 0x30, 0x31, 0xa0, 7}[r.Intn(10)]
		}
		return its
	}
	words := []string{"node", "workload", "operator", "boot", "ca", "a", "web", "shop", "", "x-", "user", "\n", strings.Repeat("x", 24), strings.Repeat("x", 25), strings.Repeat("x", 64), strings.Repeat("x", 65)}
	ids := [][]byte{{0x2b, 0xce, 0x0f, 1, 1}, {0x2b, 0xce, 0x0f, 1, 2}, {0x2b, 0xce, 0x0f, 1, 3}, {0x2b, 0xce, 0x0f, 1, 4}, {0x2a}, {}, {0x80, 1}, {0x2b, 0x81}}
	var parts [][]byte
	for range []int{0, 1, 2, 2, 2, 3, 3, 3, 3, 4, 7, 8, 9}[r.Intn(13)] {
		id, word := min(len(parts), 2), words[r.Intn(len(words))]
		if r.Intn(3) == 0 {
			id = r.Intn(len(ids))
		}
		if len(parts) == 0 && r.Intn(3) > 0 {
			word = words[r.Intn(5)]
		}
		fields := [][]byte{byHand(tag(6), ids[id]), byHand(tag(12), []byte(word))}
		if r.Intn(30) == 0 {
			fields = append(fields, []byte{5, 0})
		}
		fields = fields[:len(fields)-r.Intn(30)/29]
		parts = append(parts, byHand(tag(0x30), fields...))
	}
	b := byHand(tag(0x30), parts...)
	if r.Intn(40) == 0 {
		b = append(b, 5, 0)
	}
	return b
}

// P9.1: elements by chance, some right, most not.
func TestElementsByChance(t *testing.T) {
	r := rand.New(rand.NewSource(94))
	told := map[error]int{}
	for range 200000 {
		b := chanceElement(r)
		holdBytes(t, b)
		_, err := names.Read(b)
		told[err]++
	}
	for _, err := range []error{nil, api.ErrName, api.ErrShort, api.ErrLong, api.ErrTag, api.ErrForm, api.ErrText} {
		if told[err] < 100 {
			t.Errorf("%v was told but %d times", err, told[err])
		}
	}
}

// P9.1: Put comes behind what is written, and into what is open; it leaves open what was.
func TestPutAmongOthers(t *testing.T) {
	var w der.Writer
	names.Put(&w, web)
	names.Put(&w, node)
	w.Open(api.TagList)
	w.Int(5)
	names.Put(&w, node)
	w.Bool(true)
	w.Close()
	b, err := w.Done()
	want := slices.Concat(bytesByHand(web), bytesByHand(node), byHand(0x30, []byte{2, 1, 5}, bytesByHand(node), []byte{1, 1, 255}))
	if err != nil || !bytes.Equal(b, want) {
		t.Errorf("%x, %v, wanted %x", b, err, want)
	}
}

// P9.1: the writer's errors: the first one stays, whatever comes next.
func TestPutErrors(t *testing.T) {
	wrong := api.Subject{Kind: api.Node, Space: "shop", Name: "web"}
	lists := func(w *der.Writer, n int) {
		for range n {
			w.Open(api.TagList)
		}
	}
	for what, c := range map[string]struct {
		do  func(w *der.Writer)
		err error
	}{
		"a subject that isn't right":          {func(w *der.Writer) { names.Put(w, wrong) }, api.ErrName},
		"no subject":                          {func(w *der.Writer) { names.Put(w, api.Subject{}) }, api.ErrName},
		"a right one, and one that isn't":     {func(w *der.Writer) { names.Put(w, node); names.Put(w, wrong); names.Put(w, node) }, api.ErrName},
		"behind another error":                {func(w *der.Writer) { w.Moment(-1); names.Put(w, wrong) }, api.ErrRange},
		"a right one behind another error":    {func(w *der.Writer) { w.Moment(-1); names.Put(w, node) }, api.ErrRange},
		"ahead of another error":              {func(w *der.Writer) { names.Put(w, wrong); w.Moment(-1) }, api.ErrName},
		"with all levels open":                {func(w *der.Writer) { lists(w, 16); names.Put(w, node) }, api.ErrDepth},
		"with all levels but one open":        {func(w *der.Writer) { lists(w, 15); names.Put(w, node) }, api.ErrDepth},
		"one that isn't right, as deep":       {func(w *der.Writer) { lists(w, 16); names.Put(w, wrong) }, api.ErrName},
		"with something open at the end":      {func(w *der.Writer) { lists(w, 1); names.Put(w, node) }, api.ErrState},
		"nothing is left open of the subject": {func(w *der.Writer) { names.Put(w, node); w.Close() }, api.ErrState},
	} {
		var w der.Writer
		c.do(&w)
		if b, err := w.Done(); !errors.Is(err, c.err) || b != nil {
			t.Errorf("%s: %x, %v, wanted %v", what, b, err, c.err)
		}
	}
}

// P9.1: as deep as a subject can be read, it is written and read.
func TestPutDeep(t *testing.T) {
	var w der.Writer
	for range 13 {
		w.Open(api.TagList)
	}
	names.Put(&w, web)
	for range 13 {
		w.Close()
	}
	b, err := w.Done()
	if err != nil {
		t.Fatal(err)
	}
	r := der.Read(b)
	for range 13 {
		r.Enter(api.TagList)
	}
	got := names.Get(r)
	for range 13 {
		r.Leave()
	}
	if err := r.End(); err != nil || got != web {
		t.Errorf("%v, %v", got, err)
	}
}

// P9.1: Get reads the next element alone, and leaves what it has entered.
func TestGetAmongOthers(t *testing.T) {
	r := der.Read(byHand(0x30, []byte{2, 1, 5}, bytesByHand(web), bytesByHand(node), []byte{1, 1, 255}))
	in, five, first, second := r.Enter(api.TagList), r.Int(0, 9), names.Get(r), names.Get(r)
	is := r.Bool()
	r.Leave()
	if err := r.End(); err != nil || !in || five != 5 || first != web || second != node || !is {
		t.Errorf("%v %v %v %v %v, %v", in, five, first, second, is, err)
	}
}

// P9.1: the reader's errors: the first one stays, and all that is read then is none.
func TestGetErrors(t *testing.T) {
	noKind := byHand(0x30, partByHand(1, "user"), partByHand(3, "n1"))
	own := errors.New("another one")
	for what, c := range map[string]struct {
		b   []byte
		do  func(r *der.Reader)
		err error
	}{
		"nothing is left":              {bytesByHand(web), func(r *der.Reader) { r.Raw() }, api.ErrShort},
		"nothing is left in a list":    {[]byte{0x30, 0}, func(r *der.Reader) { r.Enter(api.TagList) }, api.ErrShort},
		"another tag":                  {[]byte{2, 1, 5}, func(r *der.Reader) {}, api.ErrTag},
		"another tag in a list":        {byHand(0x30, []byte{2, 1, 5}, bytesByHand(web)), func(r *der.Reader) { r.Enter(api.TagList) }, api.ErrTag},
		"no subject":                   {noKind, func(r *der.Reader) {}, api.ErrName},
		"no subject behind one":        {byHand(0x30, bytesByHand(web), noKind), func(r *der.Reader) { r.Enter(api.TagList); names.Get(r) }, api.ErrName},
		"behind an error":              {bytesByHand(web), func(r *der.Reader) { r.Fail(own) }, own},
		"no subject, behind an error":  {noKind, func(r *der.Reader) { r.Fail(own) }, own},
		"bytes that are no element":    {[]byte{0x30, 1}, func(r *der.Reader) {}, api.ErrShort},
		"a value of another tag ahead": {bytesByHand(web), func(r *der.Reader) { r.Int(0, 9) }, api.ErrTag},
	} {
		r := der.Read(c.b)
		c.do(r)
		if got := names.Get(r); got != (api.Subject{}) || !errors.Is(r.Err(), c.err) {
			t.Errorf("%s: %v, %v, wanted %v", what, got, r.Err(), c.err)
		}
		if again := names.Get(r); again != (api.Subject{}) || !errors.Is(r.Err(), c.err) || !errors.Is(r.End(), c.err) {
			t.Errorf("%s, asked again: %v, %v, wanted %v", what, again, r.End(), c.err)
		}
	}
}

// P9.1: no writer, and no reader, is no cause to panic.
func TestNone(t *testing.T) {
	names.Put(nil, web)
	names.Put(nil, api.Subject{})
	if got := names.Get(nil); got != (api.Subject{}) {
		t.Errorf("%v", got)
	}
}

// P9.1: what Bytes answers is the caller's.
func TestBytesAreTheCallers(t *testing.T) {
	first, _ := names.Bytes(web)
	second, _ := names.Bytes(web)
	clear(first)
	if third, _ := names.Bytes(web); !bytes.Equal(second, bytesByHand(web)) || !bytes.Equal(third, bytesByHand(web)) {
		t.Errorf("%x, %x: what was answered is changed by what was answered before", second, third)
	}
	b := bytesByHand(web)
	got, _ := names.Read(b)
	clear(b)
	if got != web {
		t.Errorf("%v is changed by the bytes that it was read from", got)
	}
}

// FuzzRead looks for bytes of which the chapter tells something else.
func FuzzRead(f *testing.F) {
	f.Add([]byte{})
	f.Add(bytesByHand(web))
	f.Add(bytesByHand(node))
	f.Add(byHand(0x30, partByHand(1, "workload"), partByHand(2, "shop")))
	f.Fuzz(holdBytes)
}
