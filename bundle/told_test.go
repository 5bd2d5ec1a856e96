package bundle_test

import (
	"bytes"
	"encoding/binary"
	"errors"
	"math/big"
	"math/rand"
	"regexp"
	"slices"
	"testing"
	"time"

	"bulla/api"
	"bulla/bundle"
	"bulla/mac"
	"bulla/moments"
	"bulla/texts"
	"bulla/tlv"
	"bulla/whole"
)

// The chapter told a second time, in another way: texts by patterns, each anchor held against each other one, bytes put one behind the other by hand, and eaten from the front.

const (
	lastMoment = 253402300799
	lastSerial = 1099511627776
	lastGen    = 1048576
)

var (
	label  = regexp.MustCompile(`\A[a-z0-9](?:[a-z0-9-]{0,22}[a-z0-9])?\z`)
	number = regexp.MustCompile(`\A[0-9a-f]{32}\z`)
)

// wantRight is Right as the chapter tells it: nothing is amiss.
func wantRight(b bundle.Bundle) bool {
	amiss := b.Version < 1 || b.Version > lastSerial
	amiss = amiss || !label.MatchString(b.Space)
	amiss = amiss || len(b.Anchors) == 0 || len(b.Anchors) > 8
	for i, a := range b.Anchors {
		amiss = amiss || a.Gen < 1 || a.Gen > lastGen
		amiss = amiss || !number.MatchString(a.Key)
		amiss = amiss || a.From < 0 || a.To < a.From || a.To > lastMoment
		for _, before := range b.Anchors[:i] {
			amiss = amiss || before.Gen >= a.Gen || before.Key == a.Key
		}
	}
	return !amiss
}

// wantFind is Find as the chapter tells it: from the end on, so that the first one comes last.
func wantFind(b bundle.Bundle, key string, gen int) (bundle.Anchor, bool) {
	var found bundle.Anchor
	is := false
	for i := len(b.Anchors) - 1; i >= 0; i-- {
		if a := b.Anchors[i]; a.Gen == gen && a.Key == key {
			found, is = a, true
		}
	}
	return found, is
}

// wantWith is With as the chapter tells it: the least generation of what is left comes next.
func wantWith(b bundle.Bundle, a bundle.Anchor) (bundle.Bundle, error) {
	for _, is := range b.Anchors {
		if is.Gen == a.Gen || is.Key == a.Key {
			return bundle.Bundle{}, api.ErrExists
		}
	}
	if len(b.Anchors) > 7 {
		return bundle.Bundle{}, api.ErrForm
	}
	left := append([]bundle.Anchor{a}, b.Anchors...)
	what := bundle.Bundle{Version: b.Version + 1, Space: b.Space}
	for len(left) > 0 {
		least := 0
		for i := range left {
			if left[i].Gen < left[least].Gen {
				least = i
			}
		}
		what.Anchors = append(what.Anchors, left[least])
		left = append(left[:least], left[least+1:]...)
	}
	return ifRight(what)
}

// wantWithout is Without as the chapter tells it.
func wantWithout(b bundle.Bundle, gen int) (bundle.Bundle, error) {
	what := bundle.Bundle{Version: b.Version + 1, Space: b.Space}
	is := false
	for _, a := range b.Anchors {
		if a.Gen == gen && !is {
			is = true
			continue
		}
		what.Anchors = append(what.Anchors, a)
	}
	if !is {
		return bundle.Bundle{}, api.ErrNone
	}
	return ifRight(what)
}

// ifRight is a bundle, if it is right.
func ifRight(b bundle.Bundle) (bundle.Bundle, error) {
	if !wantRight(b) {
		return bundle.Bundle{}, api.ErrForm
	}
	return b, nil
}

// byHand is an element's bytes.
func byHand(tag int, body ...[]byte) []byte {
	all := slices.Concat(body...)
	length := bytes.TrimLeft(binary.BigEndian.AppendUint32(nil, uint32(len(all))), "\x00")
	switch {
	case len(all) == 0:
		length = []byte{0}
	case len(all) > 127:
		length = append([]byte{byte(128 + len(length))}, length...)
	}
	return slices.Concat([]byte{byte(tag)}, length, all)
}

// intByHand is a number's element, of a number from 0 on.
func intByHand(n int) []byte {
	b := big.NewInt(int64(n)).Bytes()
	if len(b) == 0 || b[0] > 127 {
		b = append([]byte{0}, b...)
	}
	return byHand(2, b)
}

// idByHand is the element of a key's number.
func idByHand(id string) []byte {
	n, _ := new(big.Int).SetString(id, 16)
	return byHand(4, n.FillBytes(make([]byte, 16)))
}

// textByHand is a text's element.
func textByHand(s string) []byte { return byHand(0x0c, []byte(s)) }

// momentByHand is a moment's element.
func momentByHand(t int) []byte {
	return byHand(0x18, []byte(time.Unix(int64(t), 0).UTC().Format("20060102150405")+"Z"))
}

// anchorByHand is the elements of what an anchor says.
func anchorByHand(a bundle.Anchor) [][]byte {
	return [][]byte{intByHand(a.Gen), idByHand(a.Key), momentByHand(a.From), momentByHand(a.To)}
}

// anchorsByHand is the element of anchors.
func anchorsByHand(list ...bundle.Anchor) []byte {
	var all [][]byte
	for _, a := range list {
		all = append(all, byHand(0x30, anchorByHand(a)...))
	}
	return setByHand(all...)
}

// setByHand is a set of elements.
func setByHand(all ...[]byte) []byte {
	slices.SortFunc(all, bytes.Compare)
	return byHand(0x31, all...)
}

// fieldsByHand is the elements of a right bundle.
func fieldsByHand(b bundle.Bundle) [][]byte {
	return [][]byte{intByHand(b.Version), textByHand(b.Space), anchorsByHand(b.Anchors...)}
}

// bytesByHand is the bytes of a right bundle.
func bytesByHand(b bundle.Bundle) []byte { return byHand(0x30, fieldsByHand(b)...) }

// eater eats elements off the front of bytes that are whole ones; its first error stays.
type eater struct {
	left []byte
	err  error
}

// eat eats an element of a tag: its body.
func (e *eater) eat(tag int) []byte {
	if e.err == nil && len(e.left) == 0 {
		e.err = api.ErrShort
	}
	if e.err != nil {
		return nil
	}
	next, rest, err := tlv.Next(e.left)
	if err == nil && next.Tag != tag {
		err = api.ErrTag
	}
	if err != nil {
		e.err = err
		return nil
	}
	e.left = rest
	return next.Body
}

// value is what the next element's body says.
func value[T any](e *eater, tag int, says func(body []byte) (T, error)) T {
	var none T
	body := e.eat(tag)
	if e.err != nil {
		return none
	}
	v, err := says(body)
	if err != nil {
		e.err = err
		return none
	}
	return v
}

// inside eats an element that is made of others, of which all is to be eaten.
func (e *eater) inside(tag int, eat func(in *eater)) {
	body := e.eat(tag)
	in := &eater{left: body, err: e.err}
	eat(in)
	if in.err == nil && len(in.left) > 0 {
		in.err = api.ErrForm
	}
	e.err = in.err
}

// to eats a number from 1 to another one.
func (e *eater) to(most int) int {
	return value(e, 2, func(b []byte) (int, error) { return whole.Range(b, 1, most) })
}

// anchor eats an anchor.
func (e *eater) anchor() bundle.Anchor {
	var a bundle.Anchor
	e.inside(0x30, func(in *eater) {
		a.Gen = in.to(lastGen)
		a.Key = value(in, 4, id)
		a.From = value(in, 0x18, moments.Get)
		a.To = value(in, 0x18, moments.Get)
	})
	return a
}

// id is what the bytes of a key's number say.
func id(b []byte) (string, error) {
	switch {
	case len(b) < 16:
		return "", api.ErrShort
	case len(b) > 16:
		return "", api.ErrLong
	}
	return mac.Number(b)
}

// wantRead is Read as the chapter tells it.
func wantRead(x []byte) (bundle.Bundle, error) {
	var b bundle.Bundle
	e := &eater{left: x, err: tlv.Check(x)}
	e.inside(0x30, func(in *eater) {
		b.Version = in.to(lastSerial)
		b.Space = value(in, 0x0c, func(b []byte) (string, error) { return texts.Get(b, 24) })
		in.inside(0x31, func(in *eater) {
			for in.err == nil && len(in.left) > 0 {
				if len(b.Anchors) == 8 {
					in.err = api.ErrLong
					return
				}
				b.Anchors = append(b.Anchors, in.anchor())
			}
		})
	})
	if e.err == nil && len(e.left) > 0 {
		e.err = api.ErrForm
	}
	slices.SortStableFunc(b.Anchors, func(a, b bundle.Anchor) int { return a.Gen - b.Gen })
	if e.err == nil && (!wantRight(b) || !bytes.Equal(bytesByHand(b), x)) {
		e.err = api.ErrForm
	}
	if e.err != nil {
		return bundle.Bundle{}, e.err
	}
	return b, nil
}

// equal tells whether two are the same: all of it, written out by hand.
func equal(a, b bundle.Bundle) bool {
	if a.Version != b.Version || a.Space != b.Space || len(a.Anchors) != len(b.Anchors) {
		return false
	}
	for i := range a.Anchors {
		x, y := a.Anchors[i], b.Anchors[i]
		if x.Gen != y.Gen || x.Key != y.Key || x.From != y.From || x.To != y.To {
			return false
		}
	}
	return true
}

// zero tells whether there is nothing at all.
func zero(b bundle.Bundle) bool { return b.Anchors == nil && equal(b, bundle.Bundle{}) }

// same tells whether errors are the same one, or none both.
func same(got, want error) bool {
	if got == nil || want == nil {
		return got == nil && want == nil
	}
	return errors.Is(got, want)
}

// clone is a bundle of its own.
func clone(b bundle.Bundle) bundle.Bundle {
	b.Anchors = slices.Clone(b.Anchors)
	return b
}

// holdBundle holds Right, Bytes and Gens of a bundle against what the chapter tells; what is right is read again.
func holdBundle(t *testing.T, b bundle.Bundle) {
	t.Helper()
	kept := clone(b)
	right := wantRight(b)
	if got := bundle.Right(b); got != right {
		t.Fatalf("%.600v is right: %v, wanted %v", b, got, right)
	}
	gens := b.Gens()
	for i, a := range b.Anchors {
		if len(gens) != len(b.Anchors) || gens[i] != a.Gen {
			t.Fatalf("%.600v: its generations are %v", b, gens)
		}
	}
	if len(b.Anchors) == 0 && len(gens) > 0 {
		t.Fatalf("%+v: its generations are %v", b, gens)
	}
	x, err := bundle.Bytes(b)
	if !equal(b, kept) {
		t.Fatalf("changed, to %.600v from %.600v", b, kept)
	}
	if !right {
		if !errors.Is(err, api.ErrForm) || x != nil {
			t.Fatalf("%.600v: %x, %v, wanted %v", b, x, err, api.ErrForm)
		}
		return
	}
	if want := bytesByHand(b); err != nil || !bytes.Equal(x, want) {
		t.Fatalf("%+v: %x, %v, wanted %x", b, x, err, want)
	}
	if got, err := bundle.Read(x); err != nil || !equal(got, b) || !bundle.Same(got, b) {
		t.Fatalf("%+v: of %x %+v, %v", b, x, got, err)
	}
}

// holdWith holds With of an anchor, and Find of it before and behind, against what the chapter tells.
func holdWith(t *testing.T, b bundle.Bundle, a bundle.Anchor) {
	t.Helper()
	kept := clone(b)
	got, err := b.With(a)
	want, wantErr := wantWith(kept, a)
	if !same(err, wantErr) || !equal(got, want) || err != nil && !zero(got) {
		t.Fatalf("%+v with %+v: %+v, %v, wanted %+v, %v", b, a, got, err, want, wantErr)
	}
	for _, in := range []bundle.Bundle{b, got} {
		found, is := in.Find(a.Key, a.Gen)
		if want, wantIs := wantFind(in, a.Key, a.Gen); found != want || is != wantIs {
			t.Fatalf("%+v of %+v: %+v, %v, wanted %+v, %v", a, in, found, is, want, wantIs)
		}
	}
	if !equal(b, kept) {
		t.Fatalf("with %+v: changed, to %+v from %+v", a, b, kept)
	}
}

// holdWithout holds Without of a generation against what the chapter tells.
func holdWithout(t *testing.T, b bundle.Bundle, gen int) {
	t.Helper()
	kept := clone(b)
	got, err := b.Without(gen)
	want, wantErr := wantWithout(kept, gen)
	if !same(err, wantErr) || !equal(got, want) || err != nil && !zero(got) {
		t.Fatalf("%+v without %d: %+v, %v, wanted %+v, %v", b, gen, got, err, want, wantErr)
	}
	if !equal(b, kept) {
		t.Fatalf("without %d: changed, to %+v from %+v", gen, b, kept)
	}
}

// holdBytes holds Read against what the chapter tells; what can be read is the bytes of what it says.
func holdBytes(t *testing.T, x []byte) {
	t.Helper()
	kept := bytes.Clone(x)
	got, err := bundle.Read(x)
	want, wantErr := wantRead(x)
	if !same(err, wantErr) || !equal(got, want) || err != nil && !zero(got) {
		t.Fatalf("%.400x: %+v, %v, wanted %+v, %v", x, got, err, want, wantErr)
	}
	if !bytes.Equal(x, kept) {
		t.Fatalf("%.400x: changed, from %.400x", x, kept)
	}
	if err != nil {
		return
	}
	if again, err := bundle.Bytes(got); err != nil || !bytes.Equal(again, x) {
		t.Fatalf("%x is %+v, whose bytes are %x, %v", x, got, again, err)
	}
}

// pick is one of a list.
func pick[T any](r *rand.Rand, list ...T) T { return list[r.Intn(len(list))] }

// labels is texts that are labels.
func labels() []string {
	return []string{"0", "00", "9", "a", "a--b", "a-b", "ab", "b", "shop", "web-1", "xxxxxxxxxxxxxxxxxxxxxxx", "xxxxxxxxxxxxxxxxxxxxxxxx", "z-------------------9"}
}

// ids is keys' numbers.
func ids() []string {
	return []string{
		"00000000000000000000000000000000", "ffffffffffffffffffffffffffffffff", id0, id1, "0000000000000000000000000000000a", "80000000000000000000000000000000",
		"7fffffffffffffffffffffffffffffff", "00000000000000000000000000000001", "0123456789abcdef0123456789abcdef", "fedcba9876543210fedcba9876543210",
	}
}

// gens is generations at edges, rising.
func gens() []int {
	return []int{1, 2, 3, 9, 10, 126, 127, 128, 129, 255, 256, 257, 32767, 32768, 65535, 65536, lastGen - 1, lastGen}
}

// times is moments at edges, rising.
func times() []int {
	return []int{0, 1, 59, 86399, 86400, 951782400, 1 << 31, 1 << 32, lastMoment - 1, lastMoment}
}

// someAnchors is anchors of rising generations, whose keys' numbers differ.
func someAnchors(r *rand.Rand, count int) []bundle.Anchor {
	gens, ids := gens(), ids()
	r.Shuffle(len(gens), func(i, j int) { gens[i], gens[j] = gens[j], gens[i] })
	r.Shuffle(len(ids), func(i, j int) { ids[i], ids[j] = ids[j], ids[i] })
	slices.Sort(gens[:count])
	list := make([]bundle.Anchor, count)
	for i := range list {
		from, to := pick(r, append(times(), r.Intn(lastMoment))...), pick(r, append(times(), r.Intn(lastMoment))...)
		list[i] = bundle.Anchor{Gen: gens[i], Key: ids[i], From: min(from, to), To: max(from, to)}
	}
	return list
}

// someRight is bundles that are right.
func someRight(r *rand.Rand, count int) []bundle.Bundle {
	versions := []int{1, 2, 127, 128, 255, 256, 32768, 1 << 32, lastSerial - 1, lastSerial}
	list := make([]bundle.Bundle, count)
	for i := range list {
		list[i] = bundle.Bundle{Version: pick(r, append(versions, 1+r.Intn(lastSerial))...), Space: pick(r, labels()...), Anchors: someAnchors(r, 1+i%8)}
	}
	return list
}
