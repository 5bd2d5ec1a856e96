package request_test

import (
	"bytes"
	"encoding/binary"
	"errors"
	"math/big"
	"math/rand"
	"regexp"
	"slices"
	"testing"

	"bulla/api"
	"bulla/cert"
	"bulla/keys"
	"bulla/mac"
	"bulla/names"
	"bulla/request"
	"bulla/texts"
	"bulla/tlv"
	"bulla/whole"
)

// The chapter told a second time, in another way: texts by patterns, bytes put one behind the other by hand, and eaten from the front.

const lastMoment = 253402300799

var (
	label    = regexp.MustCompile(`\A[a-z0-9](?:[a-z0-9-]{0,22}[a-z0-9])?\z`)
	number   = regexp.MustCompile(`\A[0-9a-f]{32}\z`)
	kindText = [6]string{1: "node", 2: "workload", 3: "operator", 4: "boot", 5: "ca"}
)

// wantRight is Right as the chapter tells it: nothing is amiss.
func wantRight(q api.Request) bool {
	amiss := !slices.Contains([]int{1, 2, 3, 4}, q.Subject.Kind)
	amiss = amiss || !label.MatchString(q.Subject.Name)
	amiss = amiss || q.Subject.Kind == 2 && !label.MatchString(q.Subject.Space)
	amiss = amiss || q.Subject.Kind != 2 && q.Subject.Space != ""
	amiss = amiss || !number.MatchString(q.Key)
	amiss = amiss || !slices.Contains([]int{1, 2, 3, 4, 5, 6, 7, 8, 9, 10, 11, 12, 13, 14, 15}, q.Usages)
	amiss = amiss || q.Duration < 1 || q.Duration > lastMoment
	amiss = amiss || len(q.Alts) > 8
	for i := range q.Alts {
		amiss = amiss || !label.MatchString(q.Alts[i])
		for j := range i {
			amiss = amiss || bytes.Compare([]byte(q.Alts[j]), []byte(q.Alts[i])) >= 0
		}
	}
	return !amiss
}

// byHand is an element's bytes.
func byHand(tag int, body ...[]byte) []byte {
	all := slices.Concat(body...)
	length := bytes.TrimLeft(binary.BigEndian.AppendUint32(nil, uint32(len(all))), "\x00")
	switch {
	case len(all) == 0:
		length = []byte{0}
	case len(all) > 127:
		length = append([]byte{byte(128 + len(length))}, length...)
	}
	return slices.Concat([]byte{byte(tag)}, length, all)
}

// intByHand is a number's element, of a number from 0 on.
func intByHand(n int) []byte {
	b := big.NewInt(int64(n)).Bytes()
	if len(b) == 0 || b[0] > 127 {
		b = append([]byte{0}, b...)
	}
	return byHand(2, b)
}

// idByHand is the element of a key's number.
func idByHand(id string) []byte {
	n, _ := new(big.Int).SetString(id, 16)
	return byHand(4, n.FillBytes(make([]byte, 16)))
}

// textByHand is a text's element.
func textByHand(s string) []byte { return byHand(0x0c, []byte(s)) }

// usagesByHand is the element of usages: of four bits, so many that the last one counts.
func usagesByHand(mask int) []byte {
	unused, first := 8, 0
	for n := range 4 {
		if mask&(1<<n) != 0 {
			unused, first = 7-n, first|128>>n
		}
	}
	return []byte{3, 2, byte(unused), byte(first)}
}

// partByHand is a part's element: 1.3.9999.1. and the last arc are 2b, ce 0f, 01 and it.
func partByHand(arc byte, text string) []byte {
	return byHand(0x30, []byte{6, 5, 0x2b, 0xce, 0x0f, 1, arc}, textByHand(text))
}

// subjectByHand is the element of a right subject.
func subjectByHand(s api.Subject) []byte {
	parts := [][]byte{partByHand(1, kindText[s.Kind])}
	if s.Kind == 2 {
		parts = append(parts, partByHand(2, s.Space))
	}
	return byHand(0x30, append(parts, partByHand(3, s.Name))...)
}

// altsByHand is the element of other names.
func altsByHand(alts ...string) []byte {
	var all []byte
	for _, s := range alts {
		all = append(all, textByHand(s)...)
	}
	return byHand(0x30, all)
}

// fieldsByHand is the elements of what a right request says.
func fieldsByHand(q api.Request) [][]byte {
	return [][]byte{subjectByHand(q.Subject), idByHand(q.Key), usagesByHand(q.Usages), intByHand(q.Duration), altsByHand(q.Alts...)}
}

// bodyByHand is the body of what is right.
func bodyByHand(q api.Request) []byte { return byHand(0x30, fieldsByHand(q)...) }

// joinByHand is a body and a signature.
func joinByHand(body, signature []byte) []byte { return byHand(0x30, body, byHand(4, signature)) }

// eater eats elements off the front of bytes that are whole ones; its first error stays.
type eater struct {
	left []byte
	err  error
}

// fail is an error, if there was none.
func (e *eater) fail(err error) {
	if e.err == nil {
		e.err = err
	}
}

// eat eats an element of a tag: its body.
func (e *eater) eat(tag int) []byte {
	if e.err != nil {
		return nil
	}
	if len(e.left) == 0 {
		e.err = api.ErrShort
		return nil
	}
	next, rest, err := tlv.Next(e.left)
	if err == nil && next.Tag != tag {
		err = api.ErrTag
	}
	if err != nil {
		e.err = err
		return nil
	}
	e.left = rest
	return next.Body
}

// value is what the next element's body says.
func value[T any](e *eater, tag int, says func(body []byte) (T, error)) T {
	var none T
	body := e.eat(tag)
	if e.err != nil {
		return none
	}
	v, err := says(body)
	if err != nil {
		e.err = err
		return none
	}
	return v
}

// list eats a list, of which all is to be eaten.
func (e *eater) list(eat func(in *eater)) {
	body := e.eat(0x30)
	in := &eater{left: body, err: e.err}
	eat(in)
	if len(in.left) > 0 {
		in.fail(api.ErrForm)
	}
	e.err = in.err
}

// subject eats a subject.
func (e *eater) subject() api.Subject {
	all := e.left
	if e.eat(0x30); e.err != nil {
		return api.Subject{}
	}
	var s api.Subject
	s, e.err = names.Read(all[:len(all)-len(e.left)])
	return s
}

// id is what the bytes of a key's number say.
func id(b []byte) (string, error) {
	switch {
	case len(b) < 16:
		return "", api.ErrShort
	case len(b) > 16:
		return "", api.ErrLong
	}
	return mac.Number(b)
}

// alts eats other names.
func (e *eater) alts() []string {
	var alts []string
	e.list(func(in *eater) {
		for in.err == nil && len(in.left) > 0 {
			if len(alts) == 8 {
				in.fail(api.ErrLong)
				return
			}
			alts = append(alts, value(in, 0x0c, func(b []byte) (string, error) { return texts.Get(b, 24) }))
		}
	})
	return alts
}

// wantRead is Read as the chapter tells it.
func wantRead(body []byte) (api.Request, error) {
	var q api.Request
	e := &eater{left: body, err: tlv.Check(body)}
	e.list(func(in *eater) {
		q.Subject = in.subject()
		q.Key = value(in, 4, id)
		q.Usages = value(in, 3, texts.Mask)
		q.Duration = value(in, 2, func(b []byte) (int, error) { return whole.Range(b, 1, lastMoment) })
		q.Alts = in.alts()
	})
	if e.err == nil && !wantRight(q) {
		e.err = api.ErrForm
	}
	if e.err != nil {
		return api.Request{}, e.err
	}
	return q, nil
}

// wantParse is Parse as the chapter tells it.
func wantParse(b []byte) (api.Request, error) {
	body, _, err := cert.Split(b)
	if err != nil {
		return api.Request{}, err
	}
	return wantRead(body)
}

// wantCheck is Check as the chapter tells it.
func wantCheck(g *keys.Ring, b []byte) (api.Request, error) {
	q, err := wantParse(b)
	if err != nil {
		return api.Request{}, err
	}
	if g == nil || !g.Has(q.Key) {
		return api.Request{}, api.ErrKey
	}
	body, signature, _ := cert.Split(b)
	if g.Verify(q.Key, "request", body, signature) != nil {
		return api.Request{}, api.ErrProof
	}
	return q, nil
}

// equal tells whether two say the same: all of it, written out by hand.
func equal(a, b api.Request) bool {
	if len(a.Alts) != len(b.Alts) {
		return false
	}
	for i := range a.Alts {
		if a.Alts[i] != b.Alts[i] {
			return false
		}
	}
	type all struct {
		kind, usages, duration int
		space, name, key       string
	}
	of := func(q api.Request) all {
		return all{q.Subject.Kind, q.Usages, q.Duration, q.Subject.Space, q.Subject.Name, q.Key}
	}
	return of(a) == of(b)
}

// zero tells whether nothing at all is said.
func zero(q api.Request) bool { return q.Alts == nil && equal(q, api.Request{}) }

// same tells whether errors are the same one, or none both.
func same(got, want error) bool {
	if got == nil || want == nil {
		return got == nil && want == nil
	}
	return errors.Is(got, want)
}

// holdRequest holds Right and Body of what a request says against what the chapter tells; what is right is read again.
func holdRequest(t *testing.T, q api.Request) {
	t.Helper()
	kept := slices.Clone(q.Alts)
	right := wantRight(q)
	if got := request.Right(q); got != right {
		t.Fatalf("%+v is right: %v, wanted %v", q, got, right)
	}
	body, err := request.Body(q)
	if !slices.Equal(q.Alts, kept) {
		t.Fatalf("the other names are changed, to %.300q from %.300q", q.Alts, kept)
	}
	if !right {
		if !errors.Is(err, api.ErrForm) || body != nil {
			t.Fatalf("%+v: %x, %v, wanted %v", q, body, err, api.ErrForm)
		}
		return
	}
	if want := bodyByHand(q); err != nil || !bytes.Equal(body, want) {
		t.Fatalf("%+v: %x, %v, wanted %x", q, body, err, want)
	}
	if got, err := request.Read(body); err != nil || !equal(got, q) || !request.Same(got, q) {
		t.Fatalf("%+v: of %x %+v, %v", q, body, got, err)
	}
}

// holdBody holds Read against what the chapter tells; what can be read is the body of what it says.
func holdBody(t *testing.T, b []byte) {
	t.Helper()
	kept := bytes.Clone(b)
	got, err := request.Read(b)
	want, wantErr := wantRead(b)
	if !same(err, wantErr) || !equal(got, want) || err != nil && !zero(got) {
		t.Fatalf("%.400x: %+v, %v, wanted %+v, %v", b, got, err, want, wantErr)
	}
	if !bytes.Equal(b, kept) {
		t.Fatalf("%.400x: changed, from %.400x", b, kept)
	}
	if err != nil {
		return
	}
	if again, err := request.Body(got); err != nil || !bytes.Equal(again, b) {
		t.Fatalf("%x is %+v, whose body is %x, %v", b, got, again, err)
	}
}

// holdBytes holds Parse and Check of a ring against what the chapter tells.
func holdBytes(t *testing.T, g *keys.Ring, b []byte) {
	t.Helper()
	kept, signed := bytes.Clone(b), g.Signed()
	q, err := request.Parse(b)
	if want, wantErr := wantParse(b); !same(err, wantErr) || !equal(q, want) || err != nil && !zero(q) {
		t.Fatalf("Parse of %.400x: %+v, %v, wanted %+v, %v", b, q, err, want, wantErr)
	}
	q, err = request.Check(g, b)
	if want, wantErr := wantCheck(g, b); !same(err, wantErr) || !equal(q, want) || err != nil && !zero(q) {
		t.Fatalf("Check of %.400x: %+v, %v, wanted %+v, %v", b, q, err, want, wantErr)
	}
	if !bytes.Equal(b, kept) || g.Signed() != signed {
		t.Fatalf("%.400x: changed, from %.400x; %d are signed, wanted %d", b, kept, g.Signed(), signed)
	}
}

// pick is one of a list.
func pick[T any](r *rand.Rand, list ...T) T { return list[r.Intn(len(list))] }

// labels is texts that are labels, rising.
func labels() []string {
	list := []string{"0", "00", "9", "a", "a--b", "a-b", "ab", "b", "shop", "web", "web-1", "web1", "xxxxxxxxxxxxxxxxxxxxxxx", "xxxxxxxxxxxxxxxxxxxxxxxx", "z", "z-------------------9"}
	slices.Sort(list)
	return list
}

// ids is keys' numbers.
func ids() []string {
	return []string{"00000000000000000000000000000000", "ffffffffffffffffffffffffffffffff", id0, id1, "0000000000000000000000000000000a", "80000000000000000000000000000000"}
}

// durations is durations at edges, rising.
func durations() []int {
	return []int{1, 2, 127, 128, 255, 256, 32767, 32768, 86400, 1 << 32, lastMoment - 1, lastMoment}
}

// someRight is what right requests say.
func someRight(r *rand.Rand, count int) []api.Request {
	list := make([]api.Request, count)
	for i := range list {
		q := api.Request{
			Subject:  api.Subject{Kind: 1 + r.Intn(4), Name: pick(r, labels()...)},
			Key:      pick(r, ids()...),
			Usages:   1 + r.Intn(15),
			Duration: pick(r, append(durations(), 1+r.Intn(lastMoment))...),
		}
		if q.Subject.Kind == 2 {
			q.Subject.Space = pick(r, labels()...)
		}
		for _, name := range labels() {
			if len(q.Alts) < 8 && r.Intn(6) < i%6 {
				q.Alts = append(q.Alts, name)
			}
		}
		list[i] = q
	}
	return list
}
