package pass_test

import (
	"bytes"
	"encoding/binary"
	"errors"
	"math/big"
	"math/rand"
	"regexp"
	"slices"
	"testing"
	"time"

	"bulla/api"
	"bulla/keys"
	"bulla/mac"
	"bulla/moments"
	"bulla/names"
	"bulla/pass"
	"bulla/texts"
	"bulla/tlv"
	"bulla/whole"
)

// The chapter told a second time, in another way: texts by patterns, bytes put one behind the other by hand, and eaten from the front.

const (
	lastMoment = 253402300799
	mostSerial = 1099511627776
	mostGen    = 1048576
)

var (
	label    = regexp.MustCompile(`\A[a-z0-9](?:[a-z0-9-]{0,22}[a-z0-9])?\z`)
	number   = regexp.MustCompile(`\A[0-9a-f]{32}\z`)
	kindText = [6]string{1: "node", 2: "workload", 3: "operator", 4: "boot", 5: "ca"}
)

// wantRight is Right as the chapter tells it: nothing is amiss.
func wantRight(p api.Pass) bool {
	amiss := p.Serial < 1 || p.Serial > mostSerial
	amiss = amiss || p.Gen < 1 || p.Gen > mostGen
	amiss = amiss || p.Expiry < 0 || p.Expiry > lastMoment
	for _, id := range []string{p.Issuer, p.Bound} {
		amiss = amiss || !number.MatchString(id)
	}
	for _, name := range []string{p.Account.Space, p.Account.Name, p.Audience} {
		amiss = amiss || !label.MatchString(name)
	}
	return !amiss && p.Account.Kind == 2
}

// byHand is an element's bytes.
func byHand(tag int, body ...[]byte) []byte {
	all := slices.Concat(body...)
	length := bytes.TrimLeft(binary.BigEndian.AppendUint32(nil, uint32(len(all))), "\x00")
	switch {
	case len(all) == 0:
		length = []byte{0}
	case len(all) > 127:
		length = append([]byte{byte(128 + len(length))}, length...)
	}
	return slices.Concat([]byte{byte(tag)}, length, all)
}

// intByHand is a number's element, of a number from 0 on.
func intByHand(n int) []byte {
	b := big.NewInt(int64(n)).Bytes()
	if len(b) == 0 || b[0] > 127 {
		b = append([]byte{0}, b...)
	}
	return byHand(2, b)
}

// idByHand is the element of a key's number.
func idByHand(id string) []byte {
	n, _ := new(big.Int).SetString(id, 16)
	return byHand(4, n.FillBytes(make([]byte, 16)))
}

// textByHand is a text's element.
func textByHand(s string) []byte { return byHand(0x0c, []byte(s)) }

// bodyOfMoment is a moment's body, by the library's calendar.
func bodyOfMoment(t int) []byte {
	return []byte(time.Unix(int64(t), 0).UTC().Format("20060102150405Z"))
}

// momentByHand is a moment's element.
func momentByHand(t int) []byte { return byHand(0x18, bodyOfMoment(t)) }

// partByHand is a part's element: 1.3.9999.1. and the last arc are 2b, ce 0f, 01 and it.
func partByHand(arc byte, text string) []byte {
	return byHand(0x30, []byte{6, 5, 0x2b, 0xce, 0x0f, 1, arc}, textByHand(text))
}

// subjectByHand is the element of a right subject.
func subjectByHand(s api.Subject) []byte {
	parts := [][]byte{partByHand(1, kindText[s.Kind])}
	if s.Kind == 2 {
		parts = append(parts, partByHand(2, s.Space))
	}
	return byHand(0x30, append(parts, partByHand(3, s.Name))...)
}

// fieldsByHand is the elements of what a right token says.
func fieldsByHand(p api.Pass) [][]byte {
	return [][]byte{intByHand(p.Serial), idByHand(p.Issuer), intByHand(p.Gen), subjectByHand(p.Account), textByHand(p.Audience), idByHand(p.Bound), momentByHand(p.Expiry)}
}

// bodyByHand is the body of what is right.
func bodyByHand(p api.Pass) []byte { return byHand(0x30, fieldsByHand(p)...) }

// joinByHand is bytes and a signature.
func joinByHand(b, signature []byte) []byte { return byHand(0x30, b, byHand(4, signature)) }

// eater eats elements off the front of bytes that are whole ones; its first error stays.
type eater struct {
	left []byte
	err  error
}

// eat eats an element of a tag (of any, if it is 0): its body.
func (e *eater) eat(tag int) []byte {
	if e.err != nil {
		return nil
	}
	if len(e.left) == 0 {
		e.err = api.ErrShort
		return nil
	}
	next, rest, err := tlv.Next(e.left)
	if err == nil && tag != 0 && next.Tag != tag {
		err = api.ErrTag
	}
	if err != nil {
		e.err = err
		return nil
	}
	e.left = rest
	return next.Body
}

// raw eats an element of any tag: its bytes.
func (e *eater) raw() []byte {
	all := e.left
	e.eat(0)
	return all[:len(all)-len(e.left)]
}

// value is what the next element's body says.
func value[T any](e *eater, tag int, says func(body []byte) (T, error)) T {
	var none T
	body := e.eat(tag)
	if e.err != nil {
		return none
	}
	v, err := says(body)
	if err != nil {
		e.err = err
		return none
	}
	return v
}

// list eats a list, of which all is to be eaten, behind which nothing is to stand.
func list(b []byte, eat func(in *eater)) error {
	e := &eater{left: b, err: tlv.Check(b)}
	in := &eater{left: e.eat(0x30), err: e.err}
	eat(in)
	if in.err == nil && len(in.left) > 0 {
		in.err = api.ErrForm
	}
	if in.err == nil && len(e.left) > 0 {
		in.err = api.ErrForm
	}
	return in.err
}

// subject eats a subject.
func (e *eater) subject() api.Subject {
	all := e.left
	if e.eat(0x30); e.err != nil {
		return api.Subject{}
	}
	var s api.Subject
	s, e.err = names.Read(all[:len(all)-len(e.left)])
	return s
}

// sized is a check that a body has just so many bytes.
func sized(size int) func([]byte) ([]byte, error) {
	return func(b []byte) ([]byte, error) {
		switch {
		case len(b) < size:
			return nil, api.ErrShort
		case len(b) > size:
			return nil, api.ErrLong
		}
		return b, nil
	}
}

// id is what the bytes of a key's number say.
func id(b []byte) (string, error) {
	b, err := sized(16)(b)
	if err != nil {
		return "", err
	}
	return mac.Number(b)
}

// upTo is what a number's body says, from 1 to the most.
func upTo(most int) func([]byte) (int, error) {
	return func(b []byte) (int, error) { return whole.Range(b, 1, most) }
}

// wantRead is Read as the chapter tells it.
func wantRead(body []byte) (api.Pass, error) {
	var p api.Pass
	err := list(body, func(in *eater) {
		p.Serial = value(in, 2, upTo(mostSerial))
		p.Issuer = value(in, 4, id)
		p.Gen = value(in, 2, upTo(mostGen))
		p.Account = in.subject()
		p.Audience = value(in, 0x0c, func(b []byte) (string, error) { return texts.Get(b, 24) })
		p.Bound = value(in, 4, id)
		p.Expiry = value(in, 0x18, moments.Get)
	})
	if err == nil && !wantRight(p) {
		err = api.ErrForm
	}
	if err != nil {
		return api.Pass{}, err
	}
	return p, nil
}

// wantSplit is bytes and a signature, as the chapter tells how they are joined.
func wantSplit(b []byte) (its, signature []byte, err error) {
	err = list(b, func(in *eater) {
		its = in.raw()
		signature = value(in, 4, sized(32))
	})
	return its, signature, err
}

// wantVerified is the error of a signature by a key of a ring.
func wantVerified(g *keys.Ring, id, domain string, message, signature []byte, wrong error) error {
	switch {
	case g == nil || !g.Has(id):
		return api.ErrKey
	case g.Verify(id, domain, message, signature) != nil:
		return wrong
	}
	return nil
}

// wantCheck is Check as the chapter tells it.
func wantCheck(g *keys.Ring, b []byte) (api.Pass, error) {
	body, signature, err := wantSplit(b)
	if err != nil {
		return api.Pass{}, err
	}
	p, err := wantRead(body)
	if err != nil {
		return api.Pass{}, err
	}
	if err := wantVerified(g, p.Issuer, "pass", body, signature, api.ErrSign); err != nil {
		return api.Pass{}, err
	}
	return p, nil
}

// wantShow is what Show's signature is to be of, and by which key, as the chapter tells it.
func wantShow(g *keys.Ring, token []byte, now int) (id string, message []byte, err error) {
	body, _, err := wantSplit(token)
	if err != nil {
		return "", nil, err
	}
	p, err := wantRead(body)
	switch {
	case err != nil:
		return "", nil, err
	case now < 0 || now > lastMoment:
		return "", nil, api.ErrRange
	case g == nil || !g.Has(p.Bound):
		return "", nil, api.ErrKey
	}
	return p.Bound, slices.Concat(token, bodyOfMoment(now)), nil
}

// wantShown is Shown as the chapter tells it.
func wantShown(g *keys.Ring, b []byte, now int, audience string) (api.Pass, error) {
	token, signature, err := wantSplit(b)
	if err != nil {
		return api.Pass{}, err
	}
	p, err := wantCheck(g, token)
	if err == nil && (now < 0 || now > lastMoment) {
		err = api.ErrRange
	}
	if err == nil {
		err = wantVerified(g, p.Bound, "show", slices.Concat(token, bodyOfMoment(now)), signature, api.ErrProof)
	}
	if err == nil && p.Audience != audience {
		err = api.ErrUsage
	}
	if err == nil && p.Expiry < now {
		err = api.ErrExpired
	}
	if err != nil {
		return api.Pass{}, err
	}
	return p, nil
}

// equal tells whether two say the same: all of it, written out by hand.
func equal(a, b api.Pass) bool {
	of := func(p api.Pass) ([4]int, [5]string) {
		return [4]int{p.Serial, p.Gen, p.Account.Kind, p.Expiry}, [5]string{p.Issuer, p.Account.Space, p.Account.Name, p.Audience, p.Bound}
	}
	numbersA, textsA := of(a)
	numbersB, textsB := of(b)
	return numbersA == numbersB && textsA == textsB
}

// zero tells whether nothing at all is said.
func zero(p api.Pass) bool { return equal(p, api.Pass{}) }

// same tells whether errors are the same one, or none both.
func same(got, want error) bool {
	if got == nil || want == nil {
		return got == nil && want == nil
	}
	return errors.Is(got, want)
}

// holdPass holds Right and Body of what a token says against what the chapter tells; what is right is read again.
func holdPass(t *testing.T, p api.Pass) {
	t.Helper()
	right := wantRight(p)
	if got := pass.Right(p); got != right {
		t.Fatalf("%+v is right: %v, wanted %v", p, got, right)
	}
	body, err := pass.Body(p)
	if !right {
		if !errors.Is(err, api.ErrForm) || body != nil {
			t.Fatalf("%+v: %x, %v, wanted %v", p, body, err, api.ErrForm)
		}
		return
	}
	if want := bodyByHand(p); err != nil || !bytes.Equal(body, want) {
		t.Fatalf("%+v: %x, %v, wanted %x", p, body, err, want)
	}
	if got, err := pass.Read(body); err != nil || !equal(got, p) || !pass.Same(got, p) {
		t.Fatalf("%+v: of %x %+v, %v", p, body, got, err)
	}
}

// holdBody holds Read against what the chapter tells; what can be read is the body of what it says.
func holdBody(t *testing.T, b []byte) {
	t.Helper()
	kept := bytes.Clone(b)
	got, err := pass.Read(b)
	want, wantErr := wantRead(b)
	if !same(err, wantErr) || !equal(got, want) {
		t.Fatalf("%.400x: %+v, %v, wanted %+v, %v", b, got, err, want, wantErr)
	}
	if !bytes.Equal(b, kept) {
		t.Fatalf("%.400x: changed, from %.400x", b, kept)
	}
	if err != nil {
		return
	}
	if again, err := pass.Body(got); err != nil || !bytes.Equal(again, b) {
		t.Fatalf("%x is %+v, whose body is %x, %v", b, got, again, err)
	}
}

// holdToken holds Check and Show of a ring against what the chapter tells; the ring itself stays as it is.
func holdToken(t *testing.T, g *keys.Ring, b []byte, now int) {
	t.Helper()
	kept, signed := bytes.Clone(b), g.Signed()
	p, err := pass.Check(g, b)
	if want, wantErr := wantCheck(g, b); !same(err, wantErr) || !equal(p, want) {
		t.Fatalf("Check of %.400x: %+v, %v, wanted %+v, %v", b, p, err, want, wantErr)
	}
	if g.Signed() != signed {
		t.Fatalf("Check of %.400x: %d are signed, wanted %d", b, g.Signed(), signed)
	}
	fork := g.Copy()
	shown, err := pass.Show(fork, b, now)
	id, message, wantErr := wantShow(g, b, now)
	if !same(err, wantErr) {
		t.Fatalf("Show of %.400x at %d: %v, wanted %v", b, now, err, wantErr)
	}
	if !bytes.Equal(b, kept) {
		t.Fatalf("%.400x: changed, from %.400x", b, kept)
	}
	if err != nil {
		if shown != nil || fork.Signed() != signed {
			t.Fatalf("Show of %.400x at %d: %x, %v; %d are signed, wanted %d", b, now, shown, err, fork.Signed(), signed)
		}
		return
	}
	want := joinByHand(b, by(t, drawOf(id), "show", message))
	if !bytes.Equal(shown, want) || fork.Verify(id, "show", message, shown[len(shown)-32:]) != nil {
		t.Fatalf("Show of %.400x at %d: %x, wanted %x", b, now, shown, want)
	}
}

// holdShown holds Shown of a ring against what the chapter tells.
func holdShown(t *testing.T, g *keys.Ring, b []byte, now int, audience string) {
	t.Helper()
	kept, signed := bytes.Clone(b), g.Signed()
	p, err := pass.Shown(g, b, now, audience)
	if want, wantErr := wantShown(g, b, now, audience); !same(err, wantErr) || !equal(p, want) {
		t.Fatalf("Shown of %.600x at %d to %.100q: %+v, %v, wanted %+v, %v", b, now, audience, p, err, want, wantErr)
	}
	if !bytes.Equal(b, kept) || g.Signed() != signed {
		t.Fatalf("%.600x: changed, from %.600x; %d are signed, wanted %d", b, kept, g.Signed(), signed)
	}
}

// pick is one of a list.
func pick[T any](r *rand.Rand, list ...T) T { return list[r.Intn(len(list))] }

// labels is texts that are labels.
func labels() []string {
	return []string{"0", "00", "9", "a", "a--b", "a-b", "ab", "b", "plane", "shop", "web", "web-1", "web1", "xxxxxxxxxxxxxxxxxxxxxxx", "xxxxxxxxxxxxxxxxxxxxxxxx", "z", "z-------------------9"}
}

// ids is keys' numbers.
func ids() []string {
	return []string{"00000000000000000000000000000000", "ffffffffffffffffffffffffffffffff", id0, id1, "0000000000000000000000000000000a", "80000000000000000000000000000000"}
}

// numbers is numbers from 1 to the most, at edges.
func numbers(most int) []int {
	var list []int
	for _, n := range []int{1, 2, 3, 127, 128, 255, 256, 32767, 32768, 1 << 20, 1<<20 - 1, 1 << 23, 1<<31 - 1, 1 << 31, 1 << 32, 1<<39 - 1, 1 << 39, 1<<40 - 1, 1 << 40} {
		if n <= most {
			list = append(list, n)
		}
	}
	return list
}

// times is moments at edges, rising.
func times() []int {
	return []int{0, 1, 59, 60, 86399, 86400, 951782399, 951782400, 951868799, 951868800, 4102444800, lastMoment - 1, lastMoment}
}

// someRight is what right tokens say.
func someRight(r *rand.Rand, count int) []api.Pass {
	list := make([]api.Pass, count)
	for i := range list {
		list[i] = api.Pass{
			Serial:   pick(r, append(numbers(mostSerial), 1+r.Intn(mostSerial))...),
			Issuer:   pick(r, ids()...),
			Gen:      pick(r, append(numbers(mostGen), 1+r.Intn(mostGen))...),
			Account:  api.Subject{Kind: api.Workload, Space: pick(r, labels()...), Name: pick(r, labels()...)},
			Audience: pick(r, labels()...),
			Bound:    pick(r, ids()...),
			Expiry:   pick(r, append(times(), r.Intn(lastMoment+1))...),
		}
	}
	return list
}
