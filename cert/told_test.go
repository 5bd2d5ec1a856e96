package cert_test

import (
	"bytes"
	"encoding/binary"
	"errors"
	"math/big"
	"math/rand"
	"regexp"
	"slices"
	"testing"
	"time"
	"unicode/utf8"

	"bulla/api"
	"bulla/cert"
	"bulla/keys"
	"bulla/oids"
	"bulla/tlv"
)

// The chapter told a second time, in another way: texts by patterns, moments by the library's calendar, bytes put one behind the other and eaten from the front.

const (
	mostSerial = 1 << 40
	mostGen    = 1 << 20
	lastMoment = 253402300799
)

var (
	label    = regexp.MustCompile(`\A[a-z0-9](?:[a-z0-9-]{0,22}[a-z0-9])?\z`)
	number   = regexp.MustCompile(`\A[0-9a-f]{32}\z`)
	moment   = regexp.MustCompile(`\A[0-9]{14}Z\z`)
	kindText = [6]string{1: "node", 2: "workload", 3: "operator", 4: "boot", 5: "ca"}
)

// wantSubject tells whether a subject is right.
func wantSubject(s api.Subject) bool {
	switch s.Kind {
	case 2:
		return label.MatchString(s.Name) && label.MatchString(s.Space)
	case 1, 3, 4, 5:
		return label.MatchString(s.Name) && s.Space == ""
	}
	return false
}

// wantRight is Right as the chapter tells it: nothing is amiss.
func wantRight(c api.Cert) bool {
	amiss := c.Serial < 1 || c.Serial > mostSerial
	amiss = amiss || !number.MatchString(c.Issuer) || !number.MatchString(c.Key)
	amiss = amiss || c.Gen < 1 || c.Gen > mostGen
	amiss = amiss || !wantSubject(c.Subject)
	for _, t := range []int{c.NotBefore, c.NotAfter} {
		amiss = amiss || t < 0 || t > lastMoment
	}
	amiss = amiss || c.NotAfter < c.NotBefore
	amiss = amiss || !slices.Contains([]int{1, 2, 3, 4, 5, 6, 7, 8, 9, 10, 11, 12, 13, 14, 15}, c.Usages)
	amiss = amiss || len(c.Alts) > 8
	for i := range c.Alts {
		amiss = amiss || !label.MatchString(c.Alts[i])
		for j := range i {
			amiss = amiss || bytes.Compare([]byte(c.Alts[j]), []byte(c.Alts[i])) >= 0
		}
	}
	return !amiss
}

// byHand is an element's bytes.
func byHand(tag int, body ...[]byte) []byte {
	all := slices.Concat(body...)
	length := bytes.TrimLeft(binary.BigEndian.AppendUint32(nil, uint32(len(all))), "\x00")
	switch {
	case len(all) == 0:
		length = []byte{0}
	case len(all) > 127:
		length = append([]byte{byte(128 + len(length))}, length...)
	}
	return slices.Concat([]byte{byte(tag)}, length, all)
}

// intByHand is a number's element, of a number from 0 on.
func intByHand(n int) []byte {
	b := big.NewInt(int64(n)).Bytes()
	if len(b) == 0 || b[0] > 127 {
		b = append([]byte{0}, b...)
	}
	return byHand(2, b)
}

// idByHand is the element of a key's number.
func idByHand(id string) []byte {
	n, _ := new(big.Int).SetString(id, 16)
	return byHand(4, n.FillBytes(make([]byte, 16)))
}

// momentByHand is a moment's element.
func momentByHand(t int) []byte {
	return byHand(0x18, []byte(time.Unix(int64(t), 0).UTC().Format("20060102150405")+"Z"))
}

// textByHand is a text's element.
func textByHand(s string) []byte { return byHand(0x0c, []byte(s)) }

// usagesByHand is the element of usages: of four bits, so many that the last one counts.
func usagesByHand(mask int) []byte {
	unused, first := 8, 0
	for n := range 4 {
		if mask&(1<<n) != 0 {
			unused, first = 7-n, first|128>>n
		}
	}
	return []byte{3, 2, byte(unused), byte(first)}
}

// partByHand is a part's element: 1.3.9999.1. and the last arc are 2b, ce 0f, 01 and it.
func partByHand(arc byte, text string) []byte {
	return byHand(0x30, []byte{6, 5, 0x2b, 0xce, 0x0f, 1, arc}, textByHand(text))
}

// subjectByHand is the element of a right subject.
func subjectByHand(s api.Subject) []byte {
	parts := [][]byte{partByHand(1, kindText[s.Kind])}
	if s.Kind == 2 {
		parts = append(parts, partByHand(2, s.Space))
	}
	return byHand(0x30, append(parts, partByHand(3, s.Name))...)
}

// altsByHand is the element of other names.
func altsByHand(alts ...string) []byte {
	var all []byte
	for _, s := range alts {
		all = append(all, textByHand(s)...)
	}
	return byHand(0x30, all)
}

// fieldsByHand is the elements of what a right certificate says.
func fieldsByHand(c api.Cert) [][]byte {
	return [][]byte{
		intByHand(c.Serial),
		idByHand(c.Issuer),
		intByHand(c.Gen),
		subjectByHand(c.Subject),
		byHand(0x30, momentByHand(c.NotBefore), momentByHand(c.NotAfter)),
		idByHand(c.Key),
		usagesByHand(c.Usages),
		altsByHand(c.Alts...),
	}
}

// bodyByHand is the body of what is right.
func bodyByHand(c api.Cert) []byte { return byHand(0x30, fieldsByHand(c)...) }

// joinByHand is a body and a signature.
func joinByHand(body, signature []byte) []byte { return byHand(0x30, body, byHand(4, signature)) }

// eater eats elements off the front of bytes that are whole ones; its first error stays.
type eater struct {
	left []byte
	err  error
}

// fail is an error, if there was none.
func (e *eater) fail(err error) {
	if e.err == nil {
		e.err = err
	}
}

// next is the next element's bytes, and how many of them stand ahead of its body.
func (e *eater) next() ([]byte, int) {
	if e.err != nil {
		return nil, 0
	}
	if len(e.left) == 0 {
		e.fail(api.ErrShort)
		return nil, 0
	}
	head, size := 2, int(e.left[1])
	if size > 127 {
		head, size = size-126, 0
		for _, c := range e.left[2:head] {
			size = size*256 + int(c)
		}
	}
	return e.left[:head+size], head
}

// raw eats an element whatever it is: its bytes.
func (e *eater) raw() []byte {
	b, _ := e.next()
	e.left = e.left[len(b):]
	return b
}

// eat eats an element of a tag: its body.
func (e *eater) eat(tag int) []byte {
	b, head := e.next()
	if e.err == nil && int(b[0]) != tag {
		e.fail(api.ErrTag)
	}
	if e.err != nil {
		return nil
	}
	e.left = e.left[len(b):]
	return b[head:]
}

// list eats a list, of which all is to be eaten.
func (e *eater) list(eat func(in *eater)) {
	body := e.eat(0x30)
	in := &eater{left: body, err: e.err}
	eat(in)
	if len(in.left) > 0 {
		in.fail(api.ErrForm)
	}
	e.err = in.err
}

// number eats a number from 1 to another one.
func (e *eater) number(most int) int {
	b := e.eat(2)
	switch {
	case e.err != nil:
		return 0
	case len(b) == 0:
		e.fail(api.ErrShort)
	case len(b) > 1 && (b[0] == 0 && b[1] < 128 || b[0] == 255 && b[1] > 127):
		e.fail(api.ErrForm)
	case len(b) > 8 || b[0] > 127:
		e.fail(api.ErrRange)
	}
	n := new(big.Int).SetBytes(b)
	if n.Cmp(big.NewInt(1)) < 0 || n.Cmp(big.NewInt(int64(most))) > 0 {
		e.fail(api.ErrRange)
	}
	return int(n.Int64())
}

// octets eats so many bytes.
func (e *eater) octets(n int) []byte {
	b := e.eat(4)
	switch {
	case len(b) < n:
		e.fail(api.ErrShort)
	case len(b) > n:
		e.fail(api.ErrLong)
	}
	return b
}

// id eats a key's number.
func (e *eater) id() string {
	const figures = "0123456789abcdef"
	id := ""
	for _, c := range e.octets(16) {
		id += figures[c/16:c/16+1] + figures[c%16:c%16+1]
	}
	return id
}

// text eats a text of at most so many bytes.
func (e *eater) text(most int) string {
	b := e.eat(0x0c)
	switch {
	case e.err != nil:
	case len(b) == 0:
		e.fail(api.ErrShort)
	case len(b) > most:
		e.fail(api.ErrLong)
	case !utf8.Valid(b) || bytes.ContainsFunc(b, func(r rune) bool { return r < ' ' || r == 127 }):
		e.fail(api.ErrText)
	}
	return string(b)
}

// moment eats a moment.
func (e *eater) moment() int {
	b := e.eat(0x18)
	if e.err != nil {
		return 0
	}
	if !moment.Match(b) {
		e.fail(api.ErrForm)
		return 0
	}
	at, err := time.Parse("20060102150405Z", string(b))
	if err != nil || at.Year() < 1970 {
		e.fail(api.ErrRange)
		return 0
	}
	return int(at.Unix())
}

// flags eats named bits.
func (e *eater) flags() int {
	b := e.eat(3)
	switch {
	case e.err != nil:
		return 0
	case len(b) == 0:
		e.fail(api.ErrShort)
		return 0
	case len(b) > 3 || b[0] > 7 || len(b) == 1 && b[0] > 0 || len(b) > 1 && b[len(b)-1]&(1<<b[0]-1) != 0:
		e.fail(api.ErrForm)
		return 0
	case len(b) > 1 && b[len(b)-1]&(1<<b[0]) == 0:
		e.fail(api.ErrForm)
		return 0
	}
	mask := 0
	for i := range (len(b) - 1) * 8 {
		if b[1+i/8]&(128>>(i%8)) != 0 {
			mask |= 1 << i
		}
	}
	if mask > 1<<15-1 {
		e.fail(api.ErrRange)
	}
	return mask
}

// subject eats a subject.
func (e *eater) subject() api.Subject {
	var parts []api.Part
	e.list(func(in *eater) {
		for in.err == nil && len(in.left) > 0 {
			if len(parts) == 8 {
				in.fail(api.ErrLong)
				return
			}
			in.list(func(in *eater) {
				oid := in.eat(6)
				if in.err == nil {
					var p api.Part
					p.OID, in.err = oids.Get(oid)
					p.Text = in.text(64)
					parts = append(parts, p)
				}
			})
		}
	})
	s := subjectOf(parts)
	if !wantSubject(s) {
		e.fail(api.ErrName)
	}
	return s
}

// subjectOf is the subject that parts are; none, if they are none's.
func subjectOf(parts []api.Part) api.Subject {
	var arcs, words []string
	for _, p := range parts {
		arcs, words = append(arcs, p.OID), append(words, p.Text)
	}
	kind := 0
	if len(words) > 0 && words[0] != "" {
		kind = max(slices.Index(kindText[:], words[0]), 0)
	}
	switch {
	case kind == 2 && slices.Equal(arcs, []string{"1.3.9999.1.1", "1.3.9999.1.2", "1.3.9999.1.3"}):
		return api.Subject{Kind: kind, Space: words[1], Name: words[2]}
	case kind != 2 && slices.Equal(arcs, []string{"1.3.9999.1.1", "1.3.9999.1.3"}):
		return api.Subject{Kind: kind, Name: words[1]}
	}
	return api.Subject{}
}

// alts eats other names.
func (e *eater) alts() []string {
	var alts []string
	e.list(func(in *eater) {
		for in.err == nil && len(in.left) > 0 {
			if len(alts) == 8 {
				in.fail(api.ErrLong)
				return
			}
			alts = append(alts, in.text(24))
		}
	})
	return alts
}

// wantRead is Read as the chapter tells it.
func wantRead(body []byte) (api.Cert, error) {
	var c api.Cert
	e := &eater{left: body, err: tlv.Check(body)}
	e.list(func(in *eater) {
		c.Serial = in.number(mostSerial)
		c.Issuer = in.id()
		c.Gen = in.number(mostGen)
		c.Subject = in.subject()
		in.list(func(in *eater) {
			c.NotBefore = in.moment()
			c.NotAfter = in.moment()
		})
		c.Key = in.id()
		c.Usages = in.flags()
		c.Alts = in.alts()
	})
	if e.err == nil && !wantRight(c) {
		e.err = api.ErrForm
	}
	if e.err != nil {
		return api.Cert{}, e.err
	}
	return c, nil
}

// wantJoin is Join as the chapter tells it; what comes of the longest bodies is too long for an element.
func wantJoin(body, signature []byte) ([]byte, error) {
	if err := tlv.Check(body); err != nil {
		return nil, err
	}
	if len(signature) != 32 {
		return nil, api.ErrForm
	}
	if len(body)+34 > 65530 {
		return nil, api.ErrLong
	}
	return joinByHand(body, signature), nil
}

// wantSplit is Split as the chapter tells it.
func wantSplit(b []byte) ([]byte, []byte, error) {
	var body, signature []byte
	e := &eater{left: b, err: tlv.Check(b)}
	e.list(func(in *eater) {
		body = in.raw()
		signature = in.octets(32)
	})
	if e.err != nil {
		return nil, nil, e.err
	}
	return body, signature, nil
}

// wantParse is Parse as the chapter tells it.
func wantParse(b []byte) (api.Cert, error) {
	body, _, err := wantSplit(b)
	if err != nil {
		return api.Cert{}, err
	}
	return wantRead(body)
}

// wantCheck is Check as the chapter tells it.
func wantCheck(g *keys.Ring, b []byte) (api.Cert, error) {
	c, err := wantParse(b)
	if err != nil {
		return api.Cert{}, err
	}
	body, signature, _ := wantSplit(b)
	if err := g.Verify(c.Issuer, "cert", body, signature); err != nil {
		return api.Cert{}, err
	}
	return c, nil
}

// equal tells whether two say the same: all of it, written out by hand.
func equal(a, b api.Cert) bool {
	if len(a.Alts) != len(b.Alts) {
		return false
	}
	for i := range a.Alts {
		if a.Alts[i] != b.Alts[i] {
			return false
		}
	}
	type all struct {
		issuer, key                              string
		subject                                  api.Subject
		serial, gen, notBefore, notAfter, usages int
	}
	of := func(c api.Cert) all {
		return all{c.Issuer, c.Key, c.Subject, c.Serial, c.Gen, c.NotBefore, c.NotAfter, c.Usages}
	}
	return of(a) == of(b)
}

// zero tells whether nothing at all is said.
func zero(c api.Cert) bool { return c.Alts == nil && equal(c, api.Cert{}) }

// same tells whether errors are the same one, or none both.
func same(got, want error) bool {
	if got == nil || want == nil {
		return got == nil && want == nil
	}
	return errors.Is(got, want)
}

// holdCert holds Right and Body of what a certificate says against what the chapter tells; what is right is read again.
func holdCert(t *testing.T, c api.Cert) {
	t.Helper()
	kept := slices.Clone(c.Alts)
	right := wantRight(c)
	if got := cert.Right(c); got != right {
		t.Fatalf("%+v is right: %v, wanted %v", c, got, right)
	}
	body, err := cert.Body(c)
	if !slices.Equal(c.Alts, kept) {
		t.Fatalf("the other names are changed, to %.300q from %.300q", c.Alts, kept)
	}
	if !right {
		if !errors.Is(err, api.ErrForm) || body != nil {
			t.Fatalf("%+v: %x, %v, wanted %v", c, body, err, api.ErrForm)
		}
		return
	}
	if want := bodyByHand(c); err != nil || !bytes.Equal(body, want) {
		t.Fatalf("%+v: %x, %v, wanted %x", c, body, err, want)
	}
	if got, err := cert.Read(body); err != nil || !equal(got, c) || !cert.Same(got, c) {
		t.Fatalf("%+v: of %x %+v, %v", c, body, got, err)
	}
}

// holdBody holds Read against what the chapter tells; what can be read is the body of what it says.
func holdBody(t *testing.T, b []byte) {
	t.Helper()
	kept := bytes.Clone(b)
	got, err := cert.Read(b)
	want, wantErr := wantRead(b)
	if !same(err, wantErr) || !equal(got, want) || err != nil && !zero(got) {
		t.Fatalf("%.400x: %+v, %v, wanted %+v, %v", b, got, err, want, wantErr)
	}
	if !bytes.Equal(b, kept) {
		t.Fatalf("%.400x: changed, from %.400x", b, kept)
	}
	if err != nil {
		return
	}
	if again, err := cert.Body(got); err != nil || !bytes.Equal(again, b) {
		t.Fatalf("%x is %+v, whose body is %x, %v", b, got, again, err)
	}
}

// holdBytes holds Split, Parse and Check of a ring against what the chapter tells; what can be split is joined again.
func holdBytes(t *testing.T, g *keys.Ring, b []byte) {
	t.Helper()
	kept, signed := bytes.Clone(b), g.Signed()
	body, signature, err := cert.Split(b)
	wantBody, wantSignature, wantErr := wantSplit(b)
	if !same(err, wantErr) || !bytes.Equal(body, wantBody) || !bytes.Equal(signature, wantSignature) || err != nil && (body != nil || signature != nil) {
		t.Fatalf("Split of %.400x: %x, %x, %v, wanted %x, %x, %v", b, body, signature, err, wantBody, wantSignature, wantErr)
	}
	if err == nil {
		if again, err := cert.Join(body, signature); err != nil || !bytes.Equal(again, b) {
			t.Fatalf("%x is %x and %x, which are %x, %v", b, body, signature, again, err)
		}
	}
	c, err := cert.Parse(b)
	if want, wantErr := wantParse(b); !same(err, wantErr) || !equal(c, want) || err != nil && !zero(c) {
		t.Fatalf("Parse of %.400x: %+v, %v, wanted %+v, %v", b, c, err, want, wantErr)
	}
	c, err = cert.Check(g, b)
	if want, wantErr := wantCheck(g, b); !same(err, wantErr) || !equal(c, want) || err != nil && !zero(c) {
		t.Fatalf("Check of %.400x: %+v, %v, wanted %+v, %v", b, c, err, want, wantErr)
	}
	if !bytes.Equal(b, kept) || g.Signed() != signed {
		t.Fatalf("%.400x: changed, from %.400x; %d are signed, wanted %d", b, kept, g.Signed(), signed)
	}
}

// pick is one of a list.
func pick[T any](r *rand.Rand, list ...T) T { return list[r.Intn(len(list))] }

// labels is texts that are labels, rising.
func labels() []string {
	list := []string{"0", "00", "9", "a", "a--b", "a-b", "ab", "b", "shop", "web", "web-1", "web1", "xxxxxxxxxxxxxxxxxxxxxxx", "xxxxxxxxxxxxxxxxxxxxxxxx", "z", "z-------------------9"}
	slices.Sort(list)
	return list
}

// ids is keys' numbers.
func ids() []string {
	return []string{"00000000000000000000000000000000", "ffffffffffffffffffffffffffffffff", "37e1c3aad0dae26e458269bd41e4799f", "953ced55e276463d84fb19571ae131fd", "0000000000000000000000000000000a", "80000000000000000000000000000000"}
}

// moments is moments at edges, rising.
func moments() []int {
	return []int{0, 1, 59, 86399, 86400, 951782400, 951868799, 4102444800, lastMoment - 1, lastMoment}
}

// someRight is what right certificates say.
func someRight(r *rand.Rand, count int) []api.Cert {
	list := make([]api.Cert, count)
	for i := range list {
		c := api.Cert{
			Serial:  pick(r, 1, 2, 127, 128, 255, 256, 32767, 32768, 1<<32, mostSerial-1, mostSerial, 1+r.Intn(mostSerial)),
			Issuer:  pick(r, ids()...),
			Gen:     pick(r, 1, 2, 127, 128, 65535, mostGen-1, mostGen, 1+r.Intn(mostGen)),
			Subject: api.Subject{Kind: 1 + r.Intn(5), Name: pick(r, labels()...)},
			Key:     pick(r, ids()...),
			Usages:  1 + r.Intn(15),
		}
		if c.Subject.Kind == 2 {
			c.Subject.Space = pick(r, labels()...)
		}
		window := []int{pick(r, append(moments(), r.Intn(lastMoment))...), pick(r, append(moments(), r.Intn(lastMoment))...)}
		c.NotBefore, c.NotAfter = slices.Min(window), slices.Max(window)
		for _, name := range labels() {
			if len(c.Alts) < 8 && r.Intn(6) < i%6 {
				c.Alts = append(c.Alts, name)
			}
		}
		list[i] = c
	}
	return list
}
