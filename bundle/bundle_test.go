package bundle_test

import (
	"bytes"
	"encoding/hex"
	"errors"
	"math"
	"math/rand"
	"slices"
	"strings"
	"testing"

	"bulla/api"
	"bulla/bundle"
)

const (
	id0 = "37e1c3aad0dae26e458269bd41e4799f"
	id1 = "953ced55e276463d84fb19571ae131fd"
	id2 = "00000000000000000000000000000002"
	id3 = "ffffffffffffffffffffffffffffffff"
)

// bin is the bytes of figures with blanks between.
func bin(t testing.TB, figures string) []byte {
	t.Helper()
	b, err := hex.DecodeString(strings.ReplaceAll(figures, " ", ""))
	if err != nil {
		t.Fatal(err)
	}
	return b
}

// shop is a right bundle.
func shop() bundle.Bundle {
	return bundle.Bundle{Version: 7, Space: "shop", Anchors: []bundle.Anchor{
		{Gen: 2, Key: id1, From: 951782400, To: 951868800},
		{Gen: 5, Key: id2, From: 0, To: 9},
		{Gen: 300, Key: id0, From: 951782400, To: 253402300799},
	}}
}

// example is a bundle and its bytes.
type example struct {
	bundle bundle.Bundle
	bytes  string
}

// examples is bundles that were reckoned apart.
func examples() []example {
	var most []bundle.Anchor
	for i, gen := range []int{1, 127, 128, 255, 256, 32767, 32768, 1048576} {
		most = append(most, bundle.Anchor{Gen: gen, Key: strings.Repeat("0", 31) + "fedcba98"[i:i+1], From: i, To: 253402300799})
	}
	last := "180f39393939313233313233353935395a"
	return []example{
		{
			bundle.Bundle{Version: 1, Space: "a", Anchors: []bundle.Anchor{{Gen: 1, Key: id0}}},
			"3041 020101 0c0161 3139 3037 020101 041037e1c3aad0dae26e458269bd41e4799f 180f31393730303130313030303030305a 180f31393730303130313030303030305a",
		},
		{
			bundle.Bundle{Version: 7, Space: "shop", Anchors: []bundle.Anchor{{Gen: 2, Key: id1, From: 951782400, To: 951868800}, {Gen: 300, Key: id0, From: 951782400, To: 253402300799}}},
			"307e 020107 0c0473686f70 3173 3037 020102 0410953ced55e276463d84fb19571ae131fd 180f32303030303232393030303030305a 180f32303030303330313030303030305a" +
				"3038 0202012c 041037e1c3aad0dae26e458269bd41e4799f 180f32303030303232393030303030305a 180f39393939313233313233353935395a",
		},
		{
			bundle.Bundle{Version: 1 << 40, Space: strings.Repeat("x", 24), Anchors: most},
			"308201f6 0206010000000000 0c18787878787878787878787878787878787878787878787878 318201d0" +
				"3037 020101 04100000000000000000000000000000000f 180f31393730303130313030303030305a" + last +
				"3037 02017f 04100000000000000000000000000000000e 180f31393730303130313030303030315a" + last +
				"3038 02020080 04100000000000000000000000000000000d 180f31393730303130313030303030325a" + last +
				"3038 020200ff 04100000000000000000000000000000000c 180f31393730303130313030303030335a" + last +
				"3038 02020100 04100000000000000000000000000000000b 180f31393730303130313030303030345a" + last +
				"3038 02027fff 04100000000000000000000000000000000a 180f31393730303130313030303030355a" + last +
				"3039 0203008000 041000000000000000000000000000000009 180f31393730303130313030303030365a" + last +
				"3039 0203100000 041000000000000000000000000000000008 180f31393730303130313030303030375a" + last,
		},
	}
}

// P13.1, P13.2: bundles that are written out, through all calls.
func TestExamples(t *testing.T) {
	for i, e := range examples() {
		want := bin(t, e.bytes)
		if got, err := bundle.Bytes(e.bundle); !bundle.Right(e.bundle) || err != nil || !bytes.Equal(got, want) {
			t.Errorf("%d: its bytes are %x, %v, wanted %x", i, got, err, want)
		}
		if got, err := bundle.Read(want); err != nil || !equal(got, e.bundle) {
			t.Errorf("%d: its bytes say %+v, %v", i, got, err)
		}
		for _, a := range e.bundle.Anchors {
			if got, is := e.bundle.Find(a.Key, a.Gen); !is || got != a {
				t.Errorf("%d: of generation %d: %+v, %v", i, a.Gen, got, is)
			}
		}
	}
	if got := shop().Gens(); !slices.Equal(got, []int{2, 5, 300}) {
		t.Errorf("%v", got)
	}
}

// P13.1: the chapter's example.
func TestWithoutTheOnlyAnchor(t *testing.T) {
	b := examples()[0].bundle
	if got, err := b.Without(1); !errors.Is(err, api.ErrForm) || !zero(got) {
		t.Errorf("%+v, %v", got, err)
	}
	if got, err := b.Without(2); !errors.Is(err, api.ErrNone) || !zero(got) {
		t.Errorf("of another generation: %+v, %v", got, err)
	}
	if !equal(b, examples()[0].bundle) {
		t.Errorf("changed, to %+v", b)
	}
}

// change is what is made of a bundle, and whether it is right then.
type change struct {
	what  string
	do    func(b *bundle.Bundle)
	right bool
}

// fieldChanges is changes of the version and of the namespace.
func fieldChanges() []change {
	var list []change
	version := func(n int, right bool) {
		list = append(list, change{"a version", func(b *bundle.Bundle) { b.Version = n }, right})
	}
	for _, n := range []int{math.MinInt, -1 << 40, -256, -1, 0, 1<<40 + 1, 1<<40 + 2, 1 << 41, 1<<62 + 1, math.MaxInt} {
		version(n, false)
	}
	for _, n := range []int{1, 2, 127, 128, 1 << 20, 1<<20 + 1, 1 << 32, 1<<40 - 1, 1 << 40} {
		version(n, true)
	}
	for _, name := range labels() {
		list = append(list, change{"a namespace", func(b *bundle.Bundle) { b.Space = name }, true})
	}
	for _, name := range noLabels() {
		list = append(list, change{"no namespace", func(b *bundle.Bundle) { b.Space = name }, false})
	}
	return list
}

// noLabels is texts that are no labels.
func noLabels() []string {
	return []string{"", "-", "-a", "a-", "A", "a b", "a.b", "a_b", "a/b", "a\x00", "\n", "\x7f", "\u00e9", "\xff", "a\u00e9", strings.Repeat("x", 25), strings.Repeat("x", 64), strings.Repeat("x", 65), strings.Repeat("x", 100000)}
}

// noIDs is texts that are no keys' numbers.
func noIDs() []string {
	return []string{"", "0", id0[:31], id0 + "0", id0 + id1, strings.ToUpper(id0), id0[:31] + "g", " " + id0[1:], id0[:31] + "\x00", "/" + id0[1:], ":" + id0[1:], "`" + id0[1:], "\u0660" + id0[2:], strings.Repeat("\xff", 16)}
}

// anchorChange is what is made of an anchor, and whether it is right then.
type anchorChange struct {
	what  string
	do    func(a *bundle.Anchor)
	right bool
}

// anchorChanges is changes of an anchor alone.
func anchorChanges() []anchorChange {
	var list []anchorChange
	for _, n := range []int{math.MinInt, -1 << 20, -256, -1, 0, 1<<20 + 1, 1<<20 + 2, 1 << 21, 1<<32 + 1, 1 << 40, 1<<40 + 1, math.MaxInt} {
		list = append(list, anchorChange{"a generation", func(a *bundle.Anchor) { a.Gen = n }, false})
	}
	for _, n := range gens() {
		list = append(list, anchorChange{"a generation", func(a *bundle.Anchor) { a.Gen = n }, true})
	}
	for _, key := range ids() {
		list = append(list, anchorChange{"a key", func(a *bundle.Anchor) { a.Key = key }, true})
	}
	for _, key := range noIDs() {
		list = append(list, anchorChange{"no key", func(a *bundle.Anchor) { a.Key = key }, false})
	}
	its := append(times(), math.MinInt, -lastMoment, -1, lastMoment+1, lastMoment+2, 1<<62, math.MaxInt)
	for _, from := range its {
		for _, to := range its {
			right := 0 <= from && from <= to && to <= 253402300799
			list = append(list, anchorChange{"a window", func(a *bundle.Anchor) { a.From, a.To = from, to }, right})
		}
	}
	return list
}

// rowChanges is changes of the anchors together.
func rowChanges() []change {
	var list []change
	add := func(what string, right bool, anchors ...bundle.Anchor) {
		list = append(list, change{what, func(b *bundle.Bundle) { b.Anchors = anchors }, right})
	}
	of := func(gen int, key string) bundle.Anchor { return bundle.Anchor{Gen: gen, Key: key, From: 5, To: 6} }
	add("no anchors", false)
	list = append(list, change{"none of them", func(b *bundle.Bundle) { b.Anchors = []bundle.Anchor{} }, false})
	add("an anchor that says nothing", false, bundle.Anchor{})
	for i, a := range gens() {
		for j, b := range gens() {
			add("two generations", i < j, of(a, id0), of(b, id1))
			add("two generations behind one", i < j && a > 1, of(1, id2), of(a, id0), of(b, id1))
			add("two generations ahead of one", i < j && b < lastGen, of(a, id0), of(b, id1), of(lastGen, id2))
		}
	}
	for i, a := range ids() {
		for j, b := range ids() {
			add("two keys", i != j, of(1, a), of(2, b))
			if other := strings.Repeat("5", 32); a != other && b != other {
				add("two keys about one", i != j, of(1, a), of(2, other), of(3, b))
			}
		}
	}
	var many []bundle.Anchor
	for i := range 300 {
		many = append(many, of(i+1, strings.Repeat("0", 29)+string([]byte{'0' + byte(i/100), '0' + byte(i/10%10), '0' + byte(i%10)})))
		add("so many", i < 8, slices.Clone(many)...)
		for j := range min(i, 9) {
			twice := slices.Clone(many)
			twice[i].Key = twice[j].Key
			add("so many, and a key twice", false, twice...)
			turned := slices.Clone(many)
			turned[i], turned[j] = turned[j], turned[i]
			add("so many, and two turned", false, turned...)
		}
	}
	return list
}

// changes is all changes.
func changes() []change {
	list := append(fieldChanges(), rowChanges()...)
	for _, c := range anchorChanges() {
		list = append(list, change{c.what, func(b *bundle.Bundle) { c.do(&b.Anchors[0]); b.Anchors = b.Anchors[:1] }, c.right})
	}
	return list
}

// P13.1: one thing of a bundle is another one: what is right then, and what isn't.
func TestRightOfChanges(t *testing.T) {
	for _, change := range changes() {
		b := shop()
		change.do(&b)
		if got := bundle.Right(b); got != change.right {
			t.Errorf("%s: %.300v is right: %v", change.what, b, got)
		}
		holdBundle(t, b)
	}
	if bundle.Right(bundle.Bundle{}) {
		t.Error("what says nothing is right")
	}
}

// P13.1: an anchor that isn't right makes all wrong, whichever it is; one that is right may still not stand behind the others.
func TestRightOfEachAnchor(t *testing.T) {
	for _, change := range anchorChanges() {
		for i := range shop().Anchors {
			b := shop()
			change.do(&b.Anchors[i])
			if bundle.Right(b) && !change.right {
				t.Errorf("%s, at %d: %+v is right", change.what, i, b)
			}
			holdBundle(t, b)
		}
	}
}

// P13.1: two things of a bundle are others.
func TestRightOfTwoChanges(t *testing.T) {
	r := rand.New(rand.NewSource(131))
	fields, anchors, rows := fieldChanges(), anchorChanges(), rowChanges()
	for range 30000 {
		b := shop()
		pick(r, fields...).do(&b)
		if r.Intn(2) == 0 {
			pick(r, rows...).do(&b)
			b.Anchors = slices.Clone(b.Anchors)
		}
		if len(b.Anchors) > 0 {
			pick(r, anchors...).do(&b.Anchors[r.Intn(len(b.Anchors))])
		}
		holdBundle(t, b)
	}
}

// P13.1: right bundles by chance, and all orders of some anchors, of which one is right.
func TestRightByChance(t *testing.T) {
	for _, b := range someRight(rand.New(rand.NewSource(132)), 8000) {
		if !bundle.Right(b) {
			t.Fatalf("%+v isn't right", b)
		}
		holdBundle(t, b)
	}
	anchors := someAnchors(rand.New(rand.NewSource(133)), 5)
	right := 0
	var order func(left, list []bundle.Anchor)
	order = func(left, list []bundle.Anchor) {
		if len(left) == 0 {
			b := bundle.Bundle{Version: 1, Space: "a", Anchors: list}
			if bundle.Right(b) {
				right++
			}
			holdBundle(t, b)
		}
		for i := range left {
			order(slices.Delete(slices.Clone(left), i, i+1), append(slices.Clone(list), left[i]))
		}
	}
	if order(anchors, nil); right != 1 {
		t.Errorf("%d orders are right", right)
	}
}

// P13.1: each field counts, alone, also of bundles that aren't right; who is asked first doesn't.
func TestSame(t *testing.T) {
	fields := []func(b *bundle.Bundle){
		func(b *bundle.Bundle) { b.Version = 0 },
		func(b *bundle.Bundle) { b.Version++ },
		func(b *bundle.Bundle) { b.Space = "" },
		func(b *bundle.Bundle) { b.Space = "Shop" },
		func(b *bundle.Bundle) { b.Anchors = nil },
		func(b *bundle.Bundle) { b.Anchors = b.Anchors[:2] },
		func(b *bundle.Bundle) { b.Anchors = b.Anchors[1:] },
		func(b *bundle.Bundle) { b.Anchors = append(b.Anchors, bundle.Anchor{}) },
		func(b *bundle.Bundle) { b.Anchors[0], b.Anchors[1] = b.Anchors[1], b.Anchors[0] },
		func(b *bundle.Bundle) { b.Anchors[0].Gen++ },
		func(b *bundle.Bundle) { b.Anchors[0].Key = id3 },
		func(b *bundle.Bundle) { b.Anchors[1].Key = strings.ToUpper(id0) },
		func(b *bundle.Bundle) { b.Anchors[1].From = -1 },
		func(b *bundle.Bundle) { b.Anchors[2].To = math.MinInt },
		func(b *bundle.Bundle) { b.Anchors[2].Gen = 0 },
	}
	for i, one := range fields {
		a := shop()
		one(&a)
		if bundle.Same(a, shop()) || bundle.Same(shop(), a) || !bundle.Same(a, a) || !bundle.Same(a, clone(a)) {
			t.Errorf("%d: %v %v %v", i, bundle.Same(a, shop()), bundle.Same(shop(), a), bundle.Same(a, a))
		}
		for j, other := range fields {
			b := shop()
			other(&b)
			if got := bundle.Same(a, b); got != (i == j) {
				t.Errorf("%d and %d: %v", i, j, got)
			}
		}
	}
	if !bundle.Same(bundle.Bundle{}, bundle.Bundle{Anchors: []bundle.Anchor{}}) || !bundle.Same(shop(), shop()) {
		t.Error("what is the same isn't")
	}
}

// P13.1: Find asks for key and generation, both; of more of them the first one is answered, right or not.
func TestFind(t *testing.T) {
	b := shop()
	for i, a := range b.Anchors {
		for j, other := range b.Anchors {
			got, is := b.Find(a.Key, other.Gen)
			if is != (i == j) || is && got != a || !is && got != (bundle.Anchor{}) {
				t.Errorf("the key of %d and the generation of %d: %+v, %v", i, j, got, is)
			}
		}
		for _, gen := range []int{0, -a.Gen, a.Gen + 1, math.MaxInt} {
			if got, is := b.Find(a.Key, gen); is || got != (bundle.Anchor{}) {
				t.Errorf("%+v, of generation %d", got, gen)
			}
		}
		for _, key := range append(noIDs(), id3, a.Key[1:], a.Key+"0") {
			if got, is := b.Find(key, a.Gen); is || got != (bundle.Anchor{}) {
				t.Errorf("%+v, of key %q", got, key)
			}
		}
	}
	of := func(gen int, key string, from int) bundle.Anchor {
		return bundle.Anchor{Gen: gen, Key: key, From: from, To: 1}
	}
	wrong := bundle.Bundle{Anchors: []bundle.Anchor{of(9, "x", 1), of(9, id0, 2), of(8, "x", 3), of(9, "x", 4), of(0, "", 5), of(9, id0, 6)}}
	for _, c := range []struct{ gen, from int }{{9, 1}, {8, 3}} {
		if got, is := wrong.Find("x", c.gen); !is || got != of(c.gen, "x", c.from) {
			t.Errorf("%d: %+v, %v", c.gen, got, is)
		}
	}
	if got, is := wrong.Find("", 0); !is || got != of(0, "", 5) {
		t.Errorf("what says nothing: %+v, %v", got, is)
	}
	if got, is := (bundle.Bundle{}).Find("", 0); is || got != (bundle.Anchor{}) {
		t.Errorf("of no anchors: %+v, %v", got, is)
	}
}

// P13.1: an anchor more: where it comes to stand, and what speaks against it.
func TestWith(t *testing.T) {
	b := shop()
	for _, c := range []struct {
		what string
		a    bundle.Anchor
		want []int
		err  error
	}{
		{"first", bundle.Anchor{Gen: 1, Key: id3}, []int{1, 2, 5, 300}, nil},
		{"between", bundle.Anchor{Gen: 299, Key: id3, From: 5, To: 5}, []int{2, 5, 299, 300}, nil},
		{"last", bundle.Anchor{Gen: 1 << 20, Key: id3}, []int{2, 5, 300, 1 << 20}, nil},
		{"the same one", b.Anchors[1], nil, api.ErrExists},
		{"its generation", bundle.Anchor{Gen: 5, Key: id3}, nil, api.ErrExists},
		{"its key", bundle.Anchor{Gen: 6, Key: id2}, nil, api.ErrExists},
		{"one's generation and another's key", bundle.Anchor{Gen: 2, Key: id0}, nil, api.ErrExists},
		{"the last one's generation", bundle.Anchor{Gen: 300, Key: id3}, nil, api.ErrExists},
		{"the last one's key", bundle.Anchor{Gen: 301, Key: id0}, nil, api.ErrExists},
		{"its generation, and no key", bundle.Anchor{Gen: 5}, nil, api.ErrExists},
		{"its key, and a window that isn't right", bundle.Anchor{Gen: 6, Key: id2, From: -1, To: -2}, nil, api.ErrExists},
		{"nothing", bundle.Anchor{}, nil, api.ErrForm},
		{"no key", bundle.Anchor{Gen: 6}, nil, api.ErrForm},
		{"no key's number", bundle.Anchor{Gen: 6, Key: strings.ToUpper(id2)[:31] + "F"}, nil, api.ErrForm},
		{"no generation", bundle.Anchor{Gen: 0, Key: id3}, nil, api.ErrForm},
		{"a generation too great", bundle.Anchor{Gen: 1<<20 + 1, Key: id3}, nil, api.ErrForm},
		{"a window from its end on", bundle.Anchor{Gen: 6, Key: id3, From: 6, To: 5}, nil, api.ErrForm},
		{"a window that ends too late", bundle.Anchor{Gen: 6, Key: id3, To: 253402300800}, nil, api.ErrForm},
	} {
		got, err := b.With(c.a)
		if !same(err, c.err) || !slices.Equal(got.Gens(), c.want) || err != nil && !zero(got) {
			t.Errorf("%s: %+v, %v, wanted %v, %v", c.what, got, err, c.want, c.err)
		}
		if found, is := got.Find(c.a.Key, c.a.Gen); err == nil && (got.Version != 8 || got.Space != "shop" || !is || found != c.a) {
			t.Errorf("%s: %+v", c.what, got)
		}
		holdWith(t, b, c.a)
	}
}

// P13.1: what With and Without make of a bundle that isn't right, or full: right is asked of what comes of it.
func TestWithOfWrongOnes(t *testing.T) {
	a := bundle.Anchor{Gen: 6, Key: id3}
	eight := someAnchors(rand.New(rand.NewSource(134)), 8)
	for _, c := range []struct {
		what string
		do   func(b *bundle.Bundle)
		want []int
		err  error
	}{
		{"as it is", func(b *bundle.Bundle) {}, []int{2, 5, 6, 300}, nil},
		{"no version", func(b *bundle.Bundle) { b.Version = 0 }, []int{2, 5, 6, 300}, nil},
		{"a version below 0", func(b *bundle.Bundle) { b.Version = -1 }, nil, api.ErrForm},
		{"the last version but one", func(b *bundle.Bundle) { b.Version = 1<<40 - 1 }, []int{2, 5, 6, 300}, nil},
		{"the last version", func(b *bundle.Bundle) { b.Version = 1 << 40 }, nil, api.ErrForm},
		{"the greatest number", func(b *bundle.Bundle) { b.Version = math.MaxInt }, nil, api.ErrForm},
		{"the least number", func(b *bundle.Bundle) { b.Version = math.MinInt }, nil, api.ErrForm},
		{"no namespace", func(b *bundle.Bundle) { b.Space = "" }, nil, api.ErrForm},
		{"no anchors", func(b *bundle.Bundle) { b.Anchors = nil }, []int{6}, nil},
		{"turned", func(b *bundle.Bundle) { slices.Reverse(b.Anchors) }, []int{2, 5, 6, 300}, nil},
		{"turned, and a window that isn't right", func(b *bundle.Bundle) { slices.Reverse(b.Anchors); b.Anchors[0].To = 0 }, nil, api.ErrForm},
		{"a generation twice", func(b *bundle.Bundle) { b.Anchors[0].Gen = 5 }, nil, api.ErrForm},
		{"a key twice", func(b *bundle.Bundle) { b.Anchors[0].Key = id0 }, nil, api.ErrForm},
		{"a generation that isn't right", func(b *bundle.Bundle) { b.Anchors[0].Gen = 0 }, nil, api.ErrForm},
		{"seven", func(b *bundle.Bundle) { b.Anchors = sevenAbove(6) }, []int{6, 7, 8, 9, 10, 11, 12, 13}, nil},
		{"eight", func(b *bundle.Bundle) { b.Anchors = append(sevenAbove(6), bundle.Anchor{Gen: 1, Key: id0}) }, nil, api.ErrForm},
	} {
		b := shop()
		c.do(&b)
		got, err := b.With(a)
		if !same(err, c.err) || !slices.Equal(got.Gens(), c.want) || err == nil && got.Version != b.Version+1 {
			t.Errorf("%s: %+v, %v, wanted %v, %v", c.what, got, err, c.want, c.err)
		}
		holdWith(t, b, a)
		for _, gen := range b.Gens() {
			holdWithout(t, b, gen)
		}
	}
	full := bundle.Bundle{Version: 3, Space: "a", Anchors: eight}
	if _, err := full.With(eight[3]); !errors.Is(err, api.ErrExists) {
		t.Errorf("one of eight again: %v", err)
	}
	if got, err := full.With(bundle.Anchor{Gen: 77, Key: "00000000000000000000000000000077"}); !errors.Is(err, api.ErrForm) || !zero(got) {
		t.Errorf("a ninth one: %+v, %v", got, err)
	}
}

// sevenAbove is seven anchors, the one behind the other, above a generation.
func sevenAbove(gen int) []bundle.Anchor {
	var list []bundle.Anchor
	for i := range 7 {
		list = append(list, bundle.Anchor{Gen: gen + 1 + i, Key: strings.Repeat(string("0123456789"[i]), 32), From: i, To: 9})
	}
	return list
}

// P13.1: an anchor less: which one goes, and what speaks against it.
func TestWithout(t *testing.T) {
	b := shop()
	for _, c := range []struct {
		gen  int
		want []int
		err  error
	}{
		{2, []int{5, 300}, nil},
		{5, []int{2, 300}, nil},
		{300, []int{2, 5}, nil},
		{0, nil, api.ErrNone},
		{3, nil, api.ErrNone},
		{-5, nil, api.ErrNone},
		{math.MinInt, nil, api.ErrNone},
		{math.MaxInt, nil, api.ErrNone},
	} {
		got, err := b.Without(c.gen)
		if !same(err, c.err) || !slices.Equal(got.Gens(), c.want) || err != nil && !zero(got) || err == nil && (got.Version != 8 || got.Space != "shop") {
			t.Errorf("%d: %+v, %v, wanted %v, %v", c.gen, got, err, c.want, c.err)
		}
		holdWithout(t, b, c.gen)
	}
	of := func(gen int, key string) bundle.Anchor { return bundle.Anchor{Gen: gen, Key: key, From: gen, To: 99} }
	for _, c := range []struct {
		what    string
		version int
		anchors []bundle.Anchor
		want    []bundle.Anchor
		err     error
	}{
		{"of two the first one goes", 1, []bundle.Anchor{of(3, id0), of(4, id1), of(3, id2)}, nil, api.ErrForm},
		{"and the others can be right", 1, []bundle.Anchor{of(3, id0), of(2, id1), of(3, id2)}, []bundle.Anchor{of(2, id1), of(3, id2)}, nil},
		{"one of two neighbours", 1, []bundle.Anchor{of(3, id0), of(3, id2)}, []bundle.Anchor{of(3, id2)}, nil},
		{"one of three", 1, []bundle.Anchor{of(3, id0), of(3, id1), of(3, id2)}, nil, api.ErrForm},
		{"the others aren't put in order", 1, []bundle.Anchor{of(5, id0), of(3, id1), of(4, id2)}, nil, api.ErrForm},
		{"the others aren't in order, and there is none", 1, []bundle.Anchor{of(5, id0), of(4, id1)}, nil, api.ErrNone},
		{"it was out of order", 1, []bundle.Anchor{of(4, id0), of(3, id1), of(5, id2)}, []bundle.Anchor{of(4, id0), of(5, id2)}, nil},
		{"the last version", 1 << 40, []bundle.Anchor{of(3, id0), of(4, id1)}, nil, api.ErrForm},
		{"no version", 0, []bundle.Anchor{of(3, id0), of(4, id1)}, []bundle.Anchor{of(4, id1)}, nil},
		{"the greatest number", math.MaxInt, []bundle.Anchor{of(3, id0), of(4, id1)}, nil, api.ErrForm},
		{"one that isn't right goes", 1, []bundle.Anchor{of(3, ""), of(4, id1)}, []bundle.Anchor{of(4, id1)}, nil},
		{"one that isn't right stays", 1, []bundle.Anchor{of(3, id0), of(4, "")}, nil, api.ErrForm},
		{"one of two of a key goes", 1, []bundle.Anchor{of(3, id0), of(4, id0)}, []bundle.Anchor{of(4, id0)}, nil},
		{"one of nine goes", 1, append([]bundle.Anchor{of(1, id0), of(3, id1)}, sevenAbove(6)...), append([]bundle.Anchor{of(1, id0)}, sevenAbove(6)...), nil},
		{"no anchors", 1, nil, nil, api.ErrNone},
	} {
		b := bundle.Bundle{Version: c.version, Space: "a", Anchors: c.anchors}
		got, err := b.Without(3)
		if !same(err, c.err) || !slices.Equal(got.Anchors, c.want) || err != nil && !zero(got) || err == nil && got.Version != c.version+1 {
			t.Errorf("%s: %+v, %v, wanted %+v, %v", c.what, got, err, c.want, c.err)
		}
		holdWithout(t, b, 3)
	}
	wrong := bundle.Bundle{Version: 5, Anchors: []bundle.Anchor{of(3, id0), of(4, id1)}}
	if got, err := wrong.Without(3); !errors.Is(err, api.ErrForm) || !zero(got) {
		t.Errorf("without a namespace: %+v, %v", got, err)
	}
}

// P13.1: With and Without by chance, of bundles right and wrong, and from one to the next: what they make is right, and the version rises by one.
func TestStepsByChance(t *testing.T) {
	r := rand.New(rand.NewSource(135))
	told := map[error]int{}
	b := shop()
	for range 60000 {
		if r.Intn(30) == 0 {
			b = pick(r, someRight(r, 8)...)
			for range r.Intn(3) {
				pick(r, fieldChanges()...).do(&b)
				pick(r, anchorChanges()...).do(&b.Anchors[r.Intn(len(b.Anchors))])
				r.Shuffle(r.Intn(len(b.Anchors)+1), func(i, j int) { b.Anchors[i], b.Anchors[j] = b.Anchors[j], b.Anchors[i] })
			}
		}
		a := bundle.Anchor{Gen: pick(r, gens()...), Key: pick(r, ids()...), From: r.Intn(5), To: 3 + r.Intn(5)}
		holdWith(t, b, a)
		holdWithout(t, b, a.Gen)
		next, err := b.With(a)
		if r.Intn(2) == 0 {
			next, err = b.Without(pick(r, append(b.Gens(), a.Gen)...))
		}
		if told[err]++; err == nil {
			if !bundle.Right(next) || next.Version != b.Version+1 || next.Space != b.Space {
				t.Fatalf("%+v, of %+v", next, b)
			}
			b = next
		}
	}
	for _, err := range []error{nil, api.ErrExists, api.ErrForm, api.ErrNone} {
		if told[err] < 1000 {
			t.Errorf("%v was told but %d times", err, told[err])
		}
	}
}

// P13.1: an anchor that is put in and taken out again leaves all as it was, but for the version.
func TestThereAndBack(t *testing.T) {
	for _, b := range someRight(rand.New(rand.NewSource(136)), 2000) {
		a := bundle.Anchor{Gen: 4711, Key: "00000000000000000000000000004711", To: 9}
		more, err := b.With(a)
		if b.Version == lastSerial || len(b.Anchors) == 8 {
			if !errors.Is(err, api.ErrForm) || !zero(more) {
				t.Fatalf("%+v: %+v, %v", b, more, err)
			}
			continue
		}
		less, err2 := more.Without(a.Gen)
		if b.Version == lastSerial-1 {
			if err != nil || !errors.Is(err2, api.ErrForm) {
				t.Fatalf("%+v: %v, %v", b, err, err2)
			}
			continue
		}
		less.Version -= 2
		if err != nil || err2 != nil || !bundle.Same(less, b) || !equal(less, b) {
			t.Fatalf("%+v: %+v, %v, %v", b, less, err, err2)
		}
	}
}

// The rules for every call: what is given isn't changed nor kept, nor the room behind it, and what is answered is the caller's.
func TestNothingIsShared(t *testing.T) {
	room := append(shop().Anchors, bundle.Anchor{Gen: 77}, bundle.Anchor{Gen: 78})
	kept := slices.Clone(room)
	b := shop()
	b.Anchors = room[:3]
	more, err1 := b.With(bundle.Anchor{Gen: 3, Key: id3})
	less, err2 := b.Without(2)
	same3, err3 := b.Without(300)
	x, err4 := bundle.Bytes(b)
	gens := b.Gens()
	if err := errors.Join(err1, err2, err3, err4); err != nil || !slices.Equal(room, kept) {
		t.Fatalf("%v: %+v, of %+v", err, room, kept)
	}
	read, err := bundle.Read(x)
	clear(room)
	clear(x[:cap(x)])
	if err != nil || !equal(read, shop()) || !slices.Equal(gens, []int{2, 5, 300}) {
		t.Errorf("%v: %+v, %v, of what was written over", err, read, gens)
	}
	if !slices.Equal(more.Gens(), []int{2, 3, 5, 300}) || !slices.Equal(less.Gens(), []int{5, 300}) || !slices.Equal(same3.Gens(), []int{2, 5}) {
		t.Errorf("%+v, %+v, %+v, of what was written over", more, less, same3)
	}
	again, err := more.Without(3)
	for _, list := range [][]bundle.Anchor{more.Anchors, read.Anchors} {
		clear(list[:cap(list)])
	}
	if err != nil || !slices.Equal(again.Anchors, shop().Anchors) || !slices.Equal(less.Gens(), []int{5, 300}) {
		t.Errorf("%v: %+v, %+v, of what was written over", err, again, less)
	}
	wrong := bundle.Bundle{Version: 1, Space: "a", Anchors: []bundle.Anchor{{Gen: 9, Key: id0}, {Gen: 8, Key: id1}, {Gen: 7, Key: id2}}}
	sorted, err := wrong.With(bundle.Anchor{Gen: 1, Key: id3})
	if err != nil || !slices.Equal(wrong.Gens(), []int{9, 8, 7}) || !slices.Equal(sorted.Gens(), []int{1, 7, 8, 9}) {
		t.Errorf("%v: %+v, of %+v", err, sorted, wrong)
	}
}

// FuzzStep looks for bundles of which the chapter tells something else.
func FuzzStep(f *testing.F) {
	f.Add(7, "shop", 2, id1, 0, 9, 300, id0, 5, 6, 5, id2)
	f.Add(1<<40, "", 5, id1, 9, 0, 3, id0, 5, 6, 3, id2)
	f.Fuzz(func(t *testing.T, version int, space string, gen1 int, key1 string, from1, to1, gen2 int, key2 string, from2, to2, gen int, key string) {
		b := bundle.Bundle{Version: version, Space: space, Anchors: []bundle.Anchor{{Gen: gen1, Key: key1, From: from1, To: to1}, {Gen: gen2, Key: key2, From: from2, To: to2}}}
		holdBundle(t, b)
		holdWith(t, b, bundle.Anchor{Gen: gen, Key: key, From: from2, To: to1})
		holdWithout(t, b, gen)
	})
}
