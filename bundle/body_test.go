package bundle_test

import (
	"bytes"
	"errors"
	"math/rand"
	"slices"
	"strings"
	"testing"

	"bulla/api"
	"bulla/bundle"
)

// The places of fields.
const (
	atVersion = iota
	atSpace
	atAnchors
)

// The places of an anchor's fields.
const (
	atGen = iota
	atKey
	atFrom
	atTo
)

// with is the bytes of shop's fields, with others at some places.
func with(others map[int][]byte) []byte {
	fields := fieldsByHand(shop())
	for at, other := range others {
		fields[at] = other
	}
	return byHand(0x30, fields...)
}

// withAnchor is an anchor of generation 9, with others at some places.
func withAnchor(others map[int][]byte) []byte {
	fields := anchorByHand(bundle.Anchor{Gen: 9, Key: id3, From: 5, To: 6})
	for at, other := range others {
		fields[at] = other
	}
	return byHand(0x30, fields...)
}

// wrongField is bytes at a place, with the error that comes of them.
type wrongField struct {
	what string
	at   int
	b    []byte
	err  error
}

// wrongAnchorFields is fields of an anchor that can't be read.
func wrongAnchorFields() []wrongField {
	return []wrongField{
		{"a generation of no bytes", atGen, []byte{2, 0}, api.ErrShort},
		{"a generation with a needless nought", atGen, []byte{2, 2, 0, 5}, api.ErrForm},
		{"a generation of nine bytes", atGen, []byte{2, 9, 1, 0, 0, 0, 0, 0, 0, 0, 0}, api.ErrRange},
		{"no generation", atGen, []byte{2, 1, 0}, api.ErrRange},
		{"a generation below 0", atGen, []byte{2, 1, 255}, api.ErrRange},
		{"a generation beyond the last one", atGen, intByHand(lastGen + 1), api.ErrRange},
		{"a generation as great as a version", atGen, intByHand(lastSerial), api.ErrRange},
		{"a generation as a choice", atGen, []byte{10, 1, 5}, api.ErrTag},
		{"a key's number of no bytes", atKey, []byte{4, 0}, api.ErrShort},
		{"a key's number of 15 bytes", atKey, byHand(4, make([]byte, 15)), api.ErrShort},
		{"a key's number of 17 bytes", atKey, byHand(4, make([]byte, 17)), api.ErrLong},
		{"a key", atKey, byHand(4, make([]byte, 32)), api.ErrLong},
		{"figures", atKey, textByHand(id0), api.ErrTag},
		{"figures as bytes", atKey, byHand(4, []byte(id0)), api.ErrLong},
		{"a moment of no bytes", atFrom, []byte{0x18, 0}, api.ErrForm},
		{"a moment without its Z", atFrom, byHand(0x18, []byte("20000301000000")), api.ErrForm},
		{"a day that there isn't", atFrom, byHand(0x18, []byte("20010229000000Z")), api.ErrRange},
		{"a moment ahead of all", atFrom, byHand(0x18, []byte("19691231235959Z")), api.ErrRange},
		{"a moment as a number", atFrom, intByHand(5), api.ErrTag},
		{"a window in a list of its own", atFrom, byHand(0x30, momentByHand(5), momentByHand(6)), api.ErrTag},
		{"a second moment with a letter", atTo, byHand(0x18, []byte("2000030100000xZ")), api.ErrForm},
		{"a second moment of a thirteenth month", atTo, byHand(0x18, []byte("20001301000000Z")), api.ErrRange},
		{"a second moment as a text", atTo, byHand(0x0c, []byte("20000301000000Z")), api.ErrTag},
		{"a second moment of 16 bytes", atTo, byHand(0x18, []byte("200003010000000Z")), api.ErrForm},
	}
}

// nine is nine anchors, the last one with other fields.
func nine(others map[int][]byte) []byte {
	var all [][]byte
	for i := range 8 {
		all = append(all, byHand(0x30, anchorByHand(bundle.Anchor{Gen: i + 1, Key: ids()[i]})...))
	}
	return byHand(0x31, append(all, withAnchor(others))...)
}

// wrongFields is fields that can't be read.
func wrongFields() []wrongField {
	list := []wrongField{
		{"a version of no bytes", atVersion, []byte{2, 0}, api.ErrShort},
		{"a version with a needless nought", atVersion, []byte{2, 2, 0, 5}, api.ErrForm},
		{"a version below 0 with a needless byte", atVersion, []byte{2, 2, 255, 128}, api.ErrForm},
		{"a version of nine bytes", atVersion, []byte{2, 9, 1, 0, 0, 0, 0, 0, 0, 0, 0}, api.ErrRange},
		{"no version", atVersion, []byte{2, 1, 0}, api.ErrRange},
		{"a version below 0", atVersion, []byte{2, 1, 255}, api.ErrRange},
		{"a version beyond the last one", atVersion, intByHand(lastSerial + 1), api.ErrRange},
		{"a version as a choice", atVersion, []byte{10, 1, 5}, api.ErrTag},
		{"an empty namespace", atSpace, []byte{12, 0}, api.ErrShort},
		{"a namespace of 25 bytes", atSpace, textByHand(strings.Repeat("x", 25)), api.ErrLong},
		{"a namespace of 25 bytes that isn't plain", atSpace, textByHand(strings.Repeat("\n", 25)), api.ErrLong},
		{"a namespace that isn't plain", atSpace, textByHand("a\x7f"), api.ErrText},
		{"a namespace that isn't UTF-8", atSpace, textByHand("\xff"), api.ErrText},
		{"a namespace as bytes", atSpace, byHand(4, []byte("shop")), api.ErrTag},
		{"anchors in a list", atAnchors, byHand(0x30, withAnchor(nil)), api.ErrTag},
		{"an anchor alone", atAnchors, withAnchor(nil), api.ErrTag},
		{"a set in the set", atAnchors, byHand(0x31, byHand(0x31, anchorByHand(shop().Anchors[0])[:1]...)), api.ErrTag},
		{"numbers for anchors", atAnchors, byHand(0x31, intByHand(5)), api.ErrTag},
		{"an anchor that says nothing", atAnchors, byHand(0x31, byHand(0x30)), api.ErrShort},
		{"an anchor without its second moment", atAnchors, byHand(0x31, byHand(0x30, anchorByHand(shop().Anchors[0])[:3]...)), api.ErrShort},
		{"an anchor of five fields", atAnchors, byHand(0x31, byHand(0x30, append(anchorByHand(shop().Anchors[0]), []byte{5, 0})...)), api.ErrForm},
		{"nine anchors", atAnchors, nine(nil), api.ErrLong},
		{"nine anchors, the ninth one of no generation", atAnchors, nine(map[int][]byte{atFrom: {2, 1, 7}, atTo: byHand(4, make([]byte, 30))}), api.ErrLong},
		{"an anchor ahead of one of no generation", atAnchors, setByHand(withAnchor(nil), withAnchor(map[int][]byte{atGen: {2, 3, 127, 255, 255}})), api.ErrRange},
	}
	for _, w := range wrongAnchorFields() {
		list = append(list, wrongField{w.what, atAnchors, setByHand(withAnchor(map[int][]byte{w.at: w.b})), w.err})
	}
	return list
}

// wrongTogether is fields that can be read, and aren't right: it is asked behind all fields.
func wrongTogether() []wrongField {
	of := func(list ...bundle.Anchor) []byte { return anchorsByHand(list...) }
	return []wrongField{
		{"a namespace that is no label", atSpace, textByHand("Shop"), api.ErrForm},
		{"a namespace with a hyphen at its end", atSpace, textByHand("shop-"), api.ErrForm},
		{"no anchors", atAnchors, []byte{0x31, 0}, api.ErrForm},
		{"a window from its end on", atAnchors, of(bundle.Anchor{Gen: 1, Key: id0, From: 1}), api.ErrForm},
		{"a generation twice", atAnchors, of(bundle.Anchor{Gen: 1, Key: id0}, bundle.Anchor{Gen: 1, Key: id1}), api.ErrForm},
		{"a key twice", atAnchors, of(bundle.Anchor{Gen: 1, Key: id0}, bundle.Anchor{Gen: 2, Key: id0}), api.ErrForm},
		{"an anchor twice", atAnchors, of(bundle.Anchor{Gen: 1, Key: id0}, bundle.Anchor{Gen: 1, Key: id0}), api.ErrForm},
		{"a key twice, with one between", atAnchors, of(bundle.Anchor{Gen: 1, Key: id0}, bundle.Anchor{Gen: 2, Key: id1}, bundle.Anchor{Gen: 300, Key: id0}), api.ErrForm},
	}
}

// allWrong is all wrong fields.
func allWrong() []wrongField { return append(wrongFields(), wrongTogether()...) }

// wantErr asks for an error of Read.
func wantErr(t *testing.T, what string, b []byte, want error) {
	t.Helper()
	if got, err := bundle.Read(b); !same(err, want) || !zero(got) {
		t.Errorf("%s: %+v, %v, wanted %v", what, got, err, want)
	}
	holdBytes(t, b)
}

// P13.1: bytes of which a field isn't right.
func TestWrongFields(t *testing.T) {
	for _, w := range allWrong() {
		wantErr(t, w.what, with(map[int][]byte{w.at: w.b}), w.err)
	}
}

// P13.1: of two fields that can't be read the first one's error is the answer; what can be read comes behind them all.
func TestTwoWrongFields(t *testing.T) {
	hold := func(a, b wrongField, want error) {
		wantErr(t, a.what+", and "+b.what, with(map[int][]byte{a.at: a.b, b.at: b.b}), want)
	}
	for _, a := range wrongFields() {
		for _, b := range wrongFields() {
			if a.at < b.at {
				hold(a, b, a.err)
			}
		}
		for _, b := range wrongTogether() {
			if a.at != b.at {
				hold(a, b, a.err)
			}
		}
	}
	for _, a := range wrongTogether() {
		for _, b := range wrongTogether() {
			if a.at < b.at {
				hold(a, b, api.ErrForm)
			}
		}
	}
}

// P13.1: of two of an anchor's fields the first one's error is the answer, and of two anchors that of the one that stands first.
func TestTwoWrongAnchors(t *testing.T) {
	for _, a := range wrongAnchorFields() {
		for _, b := range wrongAnchorFields() {
			if a.at < b.at {
				both := withAnchor(map[int][]byte{a.at: a.b, b.at: b.b})
				wantErr(t, a.what+", and "+b.what, with(map[int][]byte{atAnchors: byHand(0x31, both)}), a.err)
			}
			one, other := withAnchor(map[int][]byte{a.at: a.b}), withAnchor(map[int][]byte{b.at: b.b})
			if bytes.Compare(one, other) < 0 {
				wantErr(t, a.what+", then "+b.what, with(map[int][]byte{atAnchors: byHand(0x31, one, other)}), a.err)
				wantErr(t, b.what+", out of order", with(map[int][]byte{atAnchors: byHand(0x31, other, one)}), api.ErrOrder)
			}
		}
	}
}

// P13.1: bytes that lack fields, have more, or have them in another order; End's error comes last.
func TestOtherFields(t *testing.T) {
	holdOthers(t, fieldsByHand(shop()), func(b ...[]byte) []byte { return byHand(0x30, b...) })
	holdOthers(t, anchorByHand(shop().Anchors[0]), func(b ...[]byte) []byte {
		return with(map[int][]byte{atAnchors: byHand(0x31, byHand(0x30, b...))})
	})
	fields := fieldsByHand(shop())
	whole := byHand(0x30, fields...)
	more := append(slices.Clone(fields), []byte{5, 0})
	wrongMore := slices.Clone(more)
	wrongMore[atSpace] = textByHand("Shop")
	for what, c := range map[string]struct {
		b   []byte
		err error
	}{
		"no bytes":               {nil, api.ErrShort},
		"an empty list":          {[]byte{0x30, 0}, api.ErrShort},
		"one more field":         {byHand(0x30, more...), api.ErrForm},
		"one more, and no label": {byHand(0x30, wrongMore...), api.ErrForm},
		"one more, and a field that can't be read": {byHand(0x30, fields[0], []byte{12, 0}, fields[2], fields[2]), api.ErrShort},
		"something behind it":                      {append(bytes.Clone(whole), 5, 0), api.ErrForm},
		"something behind it that is none":         {append(bytes.Clone(whole), 7), api.ErrForm},
		"twice":                                    {append(bytes.Clone(whole), whole...), api.ErrForm},
		"another tag":                              {byHand(0xa0, fields...), api.ErrTag},
		"a set of it":                              {byHand(0x31, fields...), api.ErrTag},
		"bytes":                                    {byHand(4, fields...), api.ErrTag},
		"a list of it":                             {byHand(0x30, whole), api.ErrTag},
		"a tag that isn't known":                   {append([]byte{7}, whole[1:]...), api.ErrTag},
		"a length of more bytes than it needs":     {slices.Concat([]byte{0x30, 0x82, 0}, whole[2:]), api.ErrForm},
		"its end missing":                          {whole[:len(whole)-1], api.ErrShort},
		"more bytes than may be":                   {byHand(0x30, append(slices.Clone(fields), byHand(4, make([]byte, api.MaxBytes)))...), api.ErrLong},
		"something wrong at the end, and an early field": {with(map[int][]byte{atVersion: {2, 0}, atAnchors: {0x31, 1, 7}}), api.ErrTag},
	} {
		wantErr(t, what, c.b, c.err)
	}
}

// holdOthers holds Read of fields that are left out, that stand twice, or at another's place, against what the chapter tells.
func holdOthers(t *testing.T, fields [][]byte, all func(b ...[]byte) []byte) {
	t.Helper()
	for i := range fields {
		want := api.ErrTag
		if i >= len(fields)-1 || bytes.Equal(fields[i][:1], fields[i+1][:1]) {
			want = api.ErrShort
		}
		wantErr(t, "a field missing", all(slices.Delete(slices.Clone(fields), i, i+1)...), want)
		wantErr(t, "the first ones", all(fields[:i]...), api.ErrShort)
		for j := range fields {
			holdBytes(t, all(slices.Insert(slices.Clone(fields), i, fields[j])...))
			turned := slices.Clone(fields)
			turned[i], turned[j] = turned[j], turned[i]
			if fields[i][0] != fields[j][0] {
				wantErr(t, "turned", all(turned...), api.ErrTag)
			}
			holdBytes(t, all(turned...))
		}
	}
}

// P13.1, P13.2: of all orders of anchors in the set one can be read: that of their bytes.
func TestOrderOfAnchors(t *testing.T) {
	r := rand.New(rand.NewSource(137))
	for range 300 {
		b := bundle.Bundle{Version: 1, Space: "a", Anchors: someAnchors(r, 4)}
		var all [][]byte
		for _, a := range b.Anchors {
			all = append(all, byHand(0x30, anchorByHand(a)...))
		}
		read := 0
		var order func(left, list [][]byte)
		order = func(left, list [][]byte) {
			if len(left) == 0 {
				x := byHand(0x30, intByHand(1), textByHand("a"), byHand(0x31, list...))
				got, err := bundle.Read(x)
				if err == nil && equal(got, b) {
					read++
				} else if !errors.Is(err, api.ErrOrder) || !zero(got) {
					t.Fatalf("%x: %+v, %v", x, got, err)
				}
				holdBytes(t, x)
			}
			for i := range left {
				order(slices.Delete(slices.Clone(left), i, i+1), append(slices.Clone(list), left[i]))
			}
		}
		if order(all, nil); read != 1 {
			t.Fatalf("%+v: %d orders can be read", b, read)
		}
	}
}

// P13.1: bytes of right bundles, changed byte by byte, cut, and with a byte put in.
func TestBytesChanged(t *testing.T) {
	its := []byte{0, 1, 2, 3, 4, 6, 10, 12, 15, 16, 17, 0x18, '-', '0', 'a', 0x30, 0x31, 0x7f, 0x80, 0x81, 0xa0, 0xff}
	for _, q := range append(someRight(rand.New(rand.NewSource(138)), 4), shop()) {
		b := bytesByHand(q)
		for i := range b {
			holdBytes(t, b[:i])
			holdBytes(t, b[i:])
			for _, x := range its {
				changed := bytes.Clone(b)
				changed[i] = x
				holdBytes(t, changed)
				changed[i] = b[i] ^ x
				holdBytes(t, changed)
				holdBytes(t, slices.Insert(bytes.Clone(b), i, x))
			}
			holdBytes(t, slices.Delete(bytes.Clone(b), i, i+1))
		}
	}
	b := bytesByHand(shop())
	for i := range b {
		for x := range 256 {
			changed := bytes.Clone(b)
			changed[i] = byte(x)
			holdBytes(t, changed)
		}
	}
}

// bytesByChance is bytes like a bundle's, with things amiss here and there.
func bytesByChance(r *rand.Rand, right []bundle.Bundle, wrong, wrongAnchor []wrongField) []byte {
	b := clone(pick(r, right...))
	if r.Intn(4) == 0 {
		i := r.Intn(len(b.Anchors))
		pick(r, func(a *bundle.Anchor) { a.Gen = b.Anchors[0].Gen }, func(a *bundle.Anchor) { a.Key = b.Anchors[0].Key }, func(a *bundle.Anchor) { a.From, a.To = a.To, a.From })(&b.Anchors[i])
	}
	var anchors [][]byte
	for _, a := range b.Anchors {
		fields := anchorByHand(a)
		if w := pick(r, wrongAnchor...); r.Intn(30) == 0 {
			fields[w.at] = w.b
		}
		anchors = append(anchors, byHand(0x30, fields...))
	}
	if r.Intn(30) == 0 {
		anchors = append(anchors, byHand(0x30, anchorByHand(bundle.Anchor{Gen: 4, Key: "00000000000000000000000000000004"})...))
	}
	if r.Intn(20) > 0 {
		slices.SortFunc(anchors, bytes.Compare)
	}
	fields := [][]byte{intByHand(b.Version), textByHand(b.Space), byHand(0x31, anchors...)}
	if w := pick(r, wrong...); r.Intn(3) == 0 {
		fields[w.at] = w.b
	}
	if r.Intn(20) == 0 {
		fields = slices.Insert(fields, r.Intn(len(fields)+1), pick(r, fields...))
	}
	return byHand(pick(r, 0x30, 0x30, 0x30, 0x30, 0x30, 0x30, 0x30, 0x30, 0xa0), fields...)
}

// P13.1: bytes by chance, some right, most not.
func TestBytesByChance(t *testing.T) {
	r := rand.New(rand.NewSource(139))
	right, wrong, wrongAnchor := someRight(r, 2000), allWrong(), wrongAnchorFields()
	told := map[error]int{}
	for range 60000 {
		b := bytesByChance(r, right, wrong, wrongAnchor)
		holdBytes(t, b)
		_, err := bundle.Read(b)
		told[err]++
	}
	for _, err := range []error{nil, api.ErrShort, api.ErrLong, api.ErrTag, api.ErrForm, api.ErrText, api.ErrRange, api.ErrOrder} {
		if told[err] < 100 {
			t.Errorf("%v was told but %d times", err, told[err])
		}
	}
}

// P13.2: unlike right bundles have unlike bytes, and each one's bytes tell the one that they are of.
func TestOneTextEach(t *testing.T) {
	told := map[string]bundle.Bundle{}
	hold := func(b bundle.Bundle) {
		if !bundle.Right(b) {
			return
		}
		x, err := bundle.Bytes(b)
		if before, is := told[string(x)]; err != nil || is && !equal(before, b) {
			t.Fatalf("%+v and %+v are both %x, %v", before, b, x, err)
		}
		told[string(x)] = b
	}
	for _, change := range changes() {
		b := shop()
		change.do(&b)
		hold(b)
	}
	for _, b := range someRight(rand.New(rand.NewSource(140)), 5000) {
		hold(b)
	}
	for x, b := range told {
		if got, err := bundle.Read([]byte(x)); err != nil || !equal(got, b) {
			t.Fatalf("%+v: of %x %+v, %v", b, x, got, err)
		}
	}
	if len(told) < 4000 {
		t.Errorf("%d texts", len(told))
	}
}

// FuzzRead looks for bytes of which the chapter tells something else.
func FuzzRead(f *testing.F) {
	f.Add([]byte{})
	f.Add(bytesByHand(shop()))
	for _, w := range allWrong() {
		f.Add(with(map[int][]byte{w.at: w.b}))
	}
	f.Fuzz(holdBytes)
}
