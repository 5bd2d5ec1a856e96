package request_test

import (
	"bytes"
	"encoding/hex"
	"errors"
	"math"
	"math/rand"
	"slices"
	"strings"
	"testing"

	"bulla/api"
	"bulla/cert"
	"bulla/keys"
	"bulla/mac"
	"bulla/request"
)

const (
	draw0 = "0123456789abcdef"
	draw1 = "a draw of rather many bytes"
	id0   = "37e1c3aad0dae26e458269bd41e4799f" // of draw0's key
	id1   = "953ced55e276463d84fb19571ae131fd" // of draw1's key
)

// bin is the bytes of figures with blanks between.
func bin(t testing.TB, figures string) []byte {
	t.Helper()
	b, err := hex.DecodeString(strings.ReplaceAll(figures, " ", ""))
	if err != nil {
		t.Fatal(err)
	}
	return b
}

// made is the key of a draw.
func made(t testing.TB, draw string) []byte {
	t.Helper()
	key, err := keys.Make([]byte(draw))
	if err != nil {
		t.Fatal(err)
	}
	return key
}

// ringOf is a ring with the keys of draws.
func ringOf(t testing.TB, draws ...string) *keys.Ring {
	t.Helper()
	g := keys.New()
	for _, draw := range draws {
		if _, err := g.Add(made(t, draw)); err != nil {
			t.Fatal(err)
		}
	}
	return g
}

// by is the signature of a draw's key, of which no ring knows.
func by(t testing.TB, draw, domain string, message []byte) []byte {
	t.Helper()
	s, err := mac.Tagged(made(t, draw), domain, message)
	if err != nil {
		t.Fatal(err)
	}
	return s[:]
}

// web is what a right request says.
func web() api.Request {
	return api.Request{Subject: api.Subject{Kind: api.Workload, Space: "shop", Name: "web"}, Key: id0, Usages: api.UseServer | api.UseClient, Duration: 86400, Alts: []string{"web", "web-1"}}
}

// example is what a request says, its body, and the signature of its key.
type example struct {
	request         api.Request
	body, signature string
}

// examples is requests that were reckoned apart.
func examples() []example {
	var most []string
	for _, c := range "abcdefgh" {
		most = append(most, strings.Repeat(string(c), 24))
	}
	return []example{
		{
			api.Request{Subject: api.Subject{Kind: api.Boot, Name: "n"}, Key: id0, Usages: api.UseServer, Duration: 1},
			"3038 301b300d06052bce0f01010c04626f6f74300a06052bce0f01030c016e 041037e1c3aad0dae26e458269bd41e4799f 03020780 020101 3000",
			"ed47bfe91f7f6b092f3a3e80682f1a153e65678ab76cf9982eee6ad899d73475",
		},
		{
			web(),
			"305b 3030301106052bce0f01010c08776f726b6c6f6164300d06052bce0f01020c0473686f70300c06052bce0f01030c03776562 041037e1c3aad0dae26e458269bd41e4799f 030206c0 0203015180 300c0c037765620c057765622d31",
			"0eda2d11a4b0cfd31f207170d61a6b1a06f243ed7bd9c8ff34e9b5be8d640180",
		},
		{
			api.Request{Subject: api.Subject{Kind: api.Operator, Name: strings.Repeat("x", 24)}, Key: id1, Usages: 15, Duration: 253402300799, Alts: most},
			"30820128 3036301106052bce0f01010c086f70657261746f72302106052bce0f01030c18787878787878787878787878787878787878787878787878 0410953ced55e276463d84fb19571ae131fd 030204f0 02053afff4417f 3081d0" +
				"0c18616161616161616161616161616161616161616161616161 0c18626262626262626262626262626262626262626262626262 0c18636363636363636363636363636363636363636363636363 0c18646464646464646464646464646464646464646464646464" +
				"0c18656565656565656565656565656565656565656565656565 0c18666666666666666666666666666666666666666666666666 0c18676767676767676767676767676767676767676767676767 0c18686868686868686868686868686868686868686868686868",
			"6f693de333631d928dc6a413fe4208c5a284200d78f545b9e5f189a0dcc47b03",
		},
	}
}

// P12.1, P12.2: requests that are written out, through all calls.
func TestExamples(t *testing.T) {
	g := ringOf(t, draw0, draw1)
	for i, e := range examples() {
		body, signature := bin(t, e.body), bin(t, e.signature)
		all := joinByHand(body, signature)
		if got, err := request.Body(e.request); !request.Right(e.request) || err != nil || !bytes.Equal(got, body) {
			t.Errorf("%d: its body is %x, %v, wanted %x", i, got, err, body)
		}
		if got, err := request.Read(body); err != nil || !equal(got, e.request) {
			t.Errorf("%d: its body says %+v, %v", i, got, err)
		}
		if got, err := request.Check(g, all); !errors.Is(err, api.ErrProof) || !zero(got) {
			t.Errorf("%d: not signed as yet: %+v, %v", i, got, err)
		}
		if got, err := request.Sign(g, e.request); err != nil || !bytes.Equal(got, all) || g.Signed() != i+1 {
			t.Errorf("%d: signed, %x, %v, wanted %x; %d are signed", i, got, err, all, g.Signed())
		}
		if got, err := request.Parse(all); err != nil || !equal(got, e.request) {
			t.Errorf("%d: it says %+v, %v", i, got, err)
		}
		if got, err := request.Check(g, all); err != nil || !equal(got, e.request) {
			t.Errorf("%d: signed, it says %+v, %v", i, got, err)
		}
	}
}

// P12.1, P12.2: the chapter's example: each bit of the signature, turned.
func TestTurnedSignature(t *testing.T) {
	g := ringOf(t, draw0)
	b, err := request.Sign(g, web())
	if err != nil {
		t.Fatal(err)
	}
	for i := range 32 {
		for bit := range 8 {
			turned := bytes.Clone(b)
			turned[len(b)-32+i] ^= 1 << bit
			if got, err := request.Check(g, turned); !errors.Is(err, api.ErrProof) || !zero(got) {
				t.Errorf("bit %d of byte %d: %+v, %v", bit, i, got, err)
			}
			if got, err := request.Parse(turned); err != nil || !equal(got, web()) {
				t.Errorf("bit %d of byte %d: it says %+v, %v", bit, i, got, err)
			}
		}
	}
}

// change is what is made of a request, and whether it is right then.
type change struct {
	what  string
	do    func(q *api.Request)
	right bool
}

// numberChanges is changes of each number: about its bounds, and far from them.
func numberChanges() []change {
	var list []change
	usages := func(n int, right bool) {
		list = append(list, change{"usages", func(q *api.Request) { q.Usages = n }, right})
	}
	duration := func(n int, right bool) {
		list = append(list, change{"a duration", func(q *api.Request) { q.Duration = n }, right})
	}
	for _, n := range []int{math.MinInt, -1 << 40, -256, -1, 0, math.MaxInt} {
		usages(n, false)
		duration(n, false)
	}
	for n := 1; n < 16; n++ {
		usages(n, true)
		duration(n, true)
	}
	for _, n := range []int{16, 17, 31, 32, 256, 1 << 14, 1<<15 - 1, 1 << 15, 1 << 32, 1<<32 + 1} {
		usages(n, false)
		duration(n, true)
	}
	for n := -2; n <= 2; n++ {
		duration(253402300799+n, n <= 0)
	}
	for _, n := range durations() {
		duration(n, true)
	}
	return list
}

// textChanges is changes of each text, and of what is in a subject.
func textChanges() []change {
	var list []change
	for _, id := range ids() {
		list = append(list, change{"a key", func(q *api.Request) { q.Key = id }, true})
	}
	for _, id := range []string{"", "0", id0[:31], id0 + "0", id0 + id1, strings.ToUpper(id0), id0[:31] + "g", " " + id0[1:], id0[:31] + "\x00", "/" + id0[1:], ":" + id0[1:], "`" + id0[1:], "\u0660" + id0[2:], strings.Repeat("\xff", 16)} {
		list = append(list, change{"no key", func(q *api.Request) { q.Key = id }, false})
	}
	for kind := -1; kind <= 8; kind++ {
		list = append(list,
			change{"a kind in a namespace", func(q *api.Request) { q.Subject.Kind = kind }, kind == 2},
			change{"a kind without one", func(q *api.Request) { q.Subject = api.Subject{Kind: kind, Name: "n"} }, kind != 2 && kind >= 1 && kind <= 4},
		)
	}
	for _, name := range labels() {
		list = append(list, change{"a name", func(q *api.Request) { q.Subject.Name = name }, true}, change{"a namespace", func(q *api.Request) { q.Subject.Space = name }, true})
	}
	for _, name := range noLabels() {
		list = append(list, change{"no name", func(q *api.Request) { q.Subject.Name = name }, false}, change{"no namespace", func(q *api.Request) { q.Subject.Space = name }, false})
	}
	return list
}

// noLabels is texts that are no labels.
func noLabels() []string {
	return []string{"", "-", "-a", "a-", "A", "a b", "a.b", "a_b", "a/b", "a\x00", "\n", "\x7f", "\u00e9", "\xff", "a\u00e9", strings.Repeat("x", 25), strings.Repeat("x", 64), strings.Repeat("x", 65), strings.Repeat("x", 100000)}
}

// altChanges is changes of the other names.
func altChanges() []change {
	var list []change
	add := func(right bool, names ...string) {
		list = append(list, change{"other names", func(q *api.Request) { q.Alts = names }, right})
	}
	add(true)
	list = append(list, change{"no other names", func(q *api.Request) { q.Alts = []string{} }, true})
	for _, name := range labels() {
		add(true, name)
		add(false, name, name)
		add(false, "0", name, name)
	}
	for _, name := range noLabels() {
		add(false, name)
		add(false, "0", name)
		add(false, "0", "1", name, "zz")
		add(false, name, "zzz")
	}
	for i, a := range labels() {
		for j, b := range labels() {
			add(i < j, a, b)
		}
	}
	eight := []string{"a", "b", "c", "d", "e", "f", "g", "h"}
	for n := range 9 {
		add(true, eight[:n]...)
		add(n < 8, append(slices.Clone(eight[:n]), "z")...)
	}
	for i := range 7 {
		turned := slices.Clone(eight)
		turned[i], turned[i+1] = turned[i+1], turned[i]
		add(false, turned...)
		turned[i], turned[i+1] = eight[i], eight[i]
		add(false, turned...)
	}
	add(true, "a", "aa", "aaa", "ab")
	add(true, "a-a", "a0", "aa")
	add(false, "a0", "a-a")
	add(true, "10", "9", "91")
	add(false, "9", "10", "91")
	return list
}

// changes is all changes.
func changes() []change { return slices.Concat(numberChanges(), textChanges(), altChanges()) }

// P12.1: one thing of a request is another one: what is right then, and what isn't.
func TestRightOfChanges(t *testing.T) {
	for _, change := range changes() {
		q := web()
		change.do(&q)
		if got := request.Right(q); got != change.right {
			t.Errorf("%s: %+v is right: %v", change.what, q, got)
		}
		holdRequest(t, q)
	}
	if request.Right(api.Request{}) {
		t.Error("what says nothing is right")
	}
}

// P12.1: two things of a request are others: one that isn't right makes all wrong, whatever the other one is.
func TestRightOfTwoChanges(t *testing.T) {
	r := rand.New(rand.NewSource(121))
	list := changes()
	for range 40000 {
		q := web()
		pick(r, list...).do(&q)
		pick(r, list...).do(&q)
		holdRequest(t, q)
	}
}

// P12.1: right requests by chance; for a CA none of them is.
func TestRightByChance(t *testing.T) {
	for _, q := range someRight(rand.New(rand.NewSource(122)), 20000) {
		if !request.Right(q) {
			t.Fatalf("%+v isn't right", q)
		}
		holdRequest(t, q)
		q.Subject = api.Subject{Kind: api.CA, Name: q.Subject.Name}
		holdRequest(t, q)
	}
}

// P12.1: each field counts, alone, also of requests that aren't right; who is asked first doesn't.
func TestSame(t *testing.T) {
	fields := []func(q *api.Request){
		func(q *api.Request) { q.Subject.Kind = api.CA },
		func(q *api.Request) { q.Subject.Space = "" },
		func(q *api.Request) { q.Subject.Name += "x" },
		func(q *api.Request) { q.Key = strings.ToUpper(q.Key) },
		func(q *api.Request) { q.Key = id1 },
		func(q *api.Request) { q.Usages ^= 16 },
		func(q *api.Request) { q.Duration++ },
		func(q *api.Request) { q.Duration = math.MinInt },
		func(q *api.Request) { q.Alts = nil },
		func(q *api.Request) { q.Alts = q.Alts[:1] },
		func(q *api.Request) { q.Alts = append(slices.Clone(q.Alts), "") },
		func(q *api.Request) { q.Alts = []string{"web-1", "web"} },
		func(q *api.Request) { q.Alts = []string{"web", "web-2"} },
		func(q *api.Request) { q.Alts = []string{"x", "web-1"} },
	}
	for i, one := range fields {
		a := web()
		one(&a)
		if request.Same(a, web()) || request.Same(web(), a) || !request.Same(a, a) {
			t.Errorf("%d: %v %v %v", i, request.Same(a, web()), request.Same(web(), a), request.Same(a, a))
		}
		for j, other := range fields {
			b := web()
			other(&b)
			if got := request.Same(a, b); got != (i == j) {
				t.Errorf("%d and %d: %v", i, j, got)
			}
		}
	}
	a, b := web(), web()
	a.Alts, b.Alts = nil, []string{}
	if !request.Same(a, b) || !request.Same(b, a) || !request.Same(api.Request{}, api.Request{}) || !request.Same(web(), web()) {
		t.Error("what says the same isn't the same")
	}
}

// P12.1: Sign's errors: those of what is said first, then those of the ring; with an error nothing is signed.
func TestSignErrors(t *testing.T) {
	wrong := web()
	wrong.Duration = 0
	var none keys.Ring
	for _, c := range []struct {
		what string
		g    *keys.Ring
		q    api.Request
		err  error
	}{
		{"a key that it hasn't", ringOf(t, draw1), web(), api.ErrKey},
		{"no keys", keys.New(), web(), api.ErrKey},
		{"a ring that New hasn't made", &none, web(), api.ErrKey},
		{"no ring", nil, web(), api.ErrKey},
		{"not right", ringOf(t, draw0), wrong, api.ErrForm},
		{"not right, and a key that it hasn't", ringOf(t, draw1), wrong, api.ErrForm},
		{"not right, and no ring", nil, wrong, api.ErrForm},
		{"nothing said", ringOf(t, draw0), api.Request{}, api.ErrForm},
	} {
		if got, err := request.Sign(c.g, c.q); !errors.Is(err, c.err) || got != nil {
			t.Errorf("%s: %x, %v, wanted %v", c.what, got, err, c.err)
		}
		if c.g != nil && c.g.Signed() != 0 {
			t.Errorf("%s: %d are signed", c.what, c.g.Signed())
		}
	}
	for _, change := range changes() {
		q := web()
		change.do(&q)
		g := ringOf(t, draw0)
		got, err := request.Sign(g, q)
		switch {
		case !change.right:
			if !errors.Is(err, api.ErrForm) || got != nil || g.Signed() != 0 {
				t.Errorf("%s: %x, %v; %d are signed", change.what, got, err, g.Signed())
			}
		case q.Key != id0:
			if !errors.Is(err, api.ErrKey) || got != nil || g.Signed() != 0 {
				t.Errorf("%s: %x, %v; %d are signed", change.what, got, err, g.Signed())
			}
		case err != nil || g.Signed() != 1:
			t.Errorf("%s: %v; %d are signed", change.what, err, g.Signed())
		}
	}
}

// P12.2: what is signed is parsed and checked as what it says, by its ring and by copies; the signature is the key's that it names, of the body.
func TestSignedIsParsed(t *testing.T) {
	g := ringOf(t, draw0, draw1)
	draws := map[string]string{id0: draw0, id1: draw1}
	r := rand.New(rand.NewSource(123))
	seen := map[string]bool{}
	for _, q := range someRight(r, 3000) {
		q.Key = pick(r, id0, id1)
		body := bodyByHand(q)
		b, err := request.Sign(g, q)
		if want := joinByHand(body, by(t, draws[q.Key], "request", body)); err != nil || !bytes.Equal(b, want) {
			t.Fatalf("%+v: %x, %v, wanted %x", q, b, err, want)
		}
		if got, err := request.Parse(b); err != nil || !equal(got, q) || !request.Same(got, q) {
			t.Fatalf("%+v: it says %+v, %v", q, got, err)
		}
		for _, ring := range []*keys.Ring{g, g.Copy()} {
			if got, err := request.Check(ring, b); err != nil || !equal(got, q) {
				t.Fatalf("%+v: signed, it says %+v, %v", q, got, err)
			}
		}
		holdBytes(t, g, b)
		seen[string(body)] = true
		if again, err := request.Sign(g, q); err != nil || !bytes.Equal(again, b) || g.Signed() != len(seen) {
			t.Fatalf("%+v: signed again, %x, %v; %d are signed, wanted %d", q, again, err, g.Signed(), len(seen))
		}
	}
}

// P12.1: Check's errors: Parse's first, then that of the key, then that of the proof.
func TestCheckErrors(t *testing.T) {
	g := ringOf(t, draw0)
	b, err := request.Sign(g, web())
	if err != nil {
		t.Fatal(err)
	}
	signed := func(body []byte) []byte {
		s, err := g.Sign(id0, "request", body)
		if err != nil {
			t.Fatal(err)
		}
		return joinByHand(body, s)
	}
	body, noughts := bodyByHand(web()), make([]byte, 32)
	wrong := with(map[int][]byte{atUsages: {3, 3, 3, 0, 8}}) // the usage of bit 12
	ca := web()
	ca.Subject = api.Subject{Kind: api.CA, Name: "root"}
	var none keys.Ring
	for _, c := range []struct {
		what string
		g    *keys.Ring
		b    []byte
		err  error
	}{
		{"signed", g, b, nil},
		{"no bytes", g, nil, api.ErrShort},
		{"no bytes, and no ring", nil, nil, api.ErrShort},
		{"a body alone", g, body, api.ErrShort}, // its key's number in the place of a signature
		{"a signature that lacks a byte", nil, joinByHand(body, noughts[:31]), api.ErrShort},
		{"a signature that has one more", nil, joinByHand(body, make([]byte, 33)), api.ErrLong},
		{"a body that isn't right, but signed", g, signed(wrong), api.ErrForm},
		{"a body that isn't right, and no ring", nil, joinByHand(wrong, noughts), api.ErrForm},
		{"a CA's, but signed", g, signed(bodyByHand(ca)), api.ErrForm},
		{"a body that says nothing, but signed", g, signed([]byte{0x30, 0}), api.ErrShort},
		{"a body that is no list, but signed", g, signed([]byte{2, 1, 5}), api.ErrTag},
		{"a ring without the key", ringOf(t, draw1), b, api.ErrKey},
		{"a ring without the key, and a signature of noughts", ringOf(t, draw1), joinByHand(body, noughts), api.ErrKey},
		{"a ring without keys", keys.New(), b, api.ErrKey},
		{"a ring that New hasn't made", &none, b, api.ErrKey},
		{"no ring", nil, b, api.ErrKey},
		{"a ring that has the key, and has signed nothing", ringOf(t, draw0), b, api.ErrProof},
		{"a signature of noughts", g, joinByHand(body, noughts), api.ErrProof},
	} {
		got, err := request.Check(c.g, c.b)
		if !same(err, c.err) || err != nil && !zero(got) || err == nil && !equal(got, web()) {
			t.Errorf("%s: %+v, %v, wanted %v", c.what, got, err, c.err)
		}
	}
}

// P12.2: what Check takes was signed: by that ring, with the domain of requests, by the key that it names, as that body.
func TestOnlyWhatWasSigned(t *testing.T) {
	g := ringOf(t, draw0, draw1)
	body := bodyByHand(web())
	for _, domain := range []string{"cert", "pass", "requests", "reques", "r", "id", "key"} {
		s, err := g.Sign(id0, domain, body)
		if err != nil {
			t.Fatal(err)
		}
		if got, err := request.Check(g, joinByHand(body, s)); !errors.Is(err, api.ErrProof) || !zero(got) {
			t.Errorf("signed with the domain %s: %+v, %v", domain, got, err)
		}
	}
	others, err := g.Sign(id1, "request", body)
	if err != nil {
		t.Fatal(err)
	}
	for what, s := range map[string][]byte{
		"reckoned":                   by(t, draw0, "request", body),
		"signed by another key":      others,
		"of the body's own proof":    by(t, draw0, "request", by(t, draw0, "request", body)),
		"of the body in another one": by(t, draw0, "request", byHand(0x30, body)),
	} {
		if got, err := request.Check(g, joinByHand(body, s)); !errors.Is(err, api.ErrProof) || !zero(got) {
			t.Errorf("%s: %+v, %v", what, got, err)
		}
	}
	other := g.Copy()
	if _, err := other.Sign(id0, "request", body); err != nil { // whoever signs a body has made a request
		t.Fatal(err)
	}
	all := joinByHand(body, by(t, draw0, "request", body))
	if got, err := request.Check(other, all); err != nil || !equal(got, web()) {
		t.Errorf("signed by a copy: %+v, %v", got, err)
	}
	if got, err := request.Check(g, all); !errors.Is(err, api.ErrProof) || !zero(got) {
		t.Errorf("signed by a copy alone: %+v, %v", got, err)
	}
}

// P12.2: who names another one's key hasn't proved anything, though its own key has signed.
func TestAnothersKey(t *testing.T) {
	g := ringOf(t, draw0, draw1)
	own := web()
	own.Key = id1
	b, err := request.Sign(g, own)
	if err != nil {
		t.Fatal(err)
	}
	_, signature, err := cert.Split(b)
	if err != nil {
		t.Fatal(err)
	}
	if got, err := request.Check(g, joinByHand(bodyByHand(web()), signature)); !errors.Is(err, api.ErrProof) || !zero(got) {
		t.Errorf("%+v, %v", got, err)
	}
	if got, err := request.Check(g, b); err != nil || !equal(got, own) {
		t.Errorf("its own: %+v, %v", got, err)
	}
}

// P12.2: a certificate is no request, and a request is no certificate.
func TestNoCertificate(t *testing.T) {
	g := ringOf(t, draw0)
	c, err := cert.Sign(g, api.Cert{Serial: 1, Issuer: id0, Gen: 1, Subject: web().Subject, NotAfter: 9, Key: id0, Usages: 1})
	if err != nil {
		t.Fatal(err)
	}
	if got, err := request.Check(g, c); !errors.Is(err, api.ErrTag) || !zero(got) {
		t.Errorf("a certificate: %+v, %v", got, err)
	}
	b, err := request.Sign(g, web())
	if err != nil {
		t.Fatal(err)
	}
	if _, err := cert.Check(g, b); !errors.Is(err, api.ErrTag) {
		t.Errorf("a request: %v", err)
	}
}

// P12.2: a request of which a bit is turned doesn't count, nor one that has another one's signature.
func TestTurnedBits(t *testing.T) {
	g := ringOf(t, draw0, draw1)
	var list [][]byte
	for i, change := range changes() {
		q := web()
		change.do(&q)
		if q.Key = id0; !request.Right(q) || i%5 > 0 && len(list) > 5 {
			continue
		}
		b, err := request.Sign(g, q)
		if err != nil {
			t.Fatal(err)
		}
		list = append(list, b)
	}
	for _, b := range list[:5] {
		for i := range b {
			for bit := range 8 {
				turned := bytes.Clone(b)
				turned[i] ^= 1 << bit
				if got, err := request.Check(g, turned); err == nil || !zero(got) {
					t.Fatalf("%x, of %x: %+v, %v", turned, b, got, err)
				}
				holdBytes(t, g, turned)
			}
		}
	}
	for _, a := range list {
		for _, b := range list {
			body, _, _ := cert.Split(a)
			own, signature, _ := cert.Split(b)
			want := api.ErrProof
			if bytes.Equal(body, own) {
				want = nil
			}
			if _, err := request.Check(g, joinByHand(body, signature)); !same(err, want) {
				t.Fatalf("%x with the signature of %x: %v, wanted %v", body, own, err, want)
			}
		}
	}
}

// The rules for every call: what is given isn't changed nor kept, and what is answered is the caller's, with the room behind it.
func TestNothingIsShared(t *testing.T) {
	g := ringOf(t, draw0)
	room := []string{"web", "web-1", "zzz"}
	q := web()
	q.Alts = room[:2]
	body, err1 := request.Body(q)
	signed, err2 := request.Sign(g, q)
	room[0] = "another"
	if !bytes.Equal(body, bodyByHand(web())) || room[1] != "web-1" || room[2] != "zzz" {
		t.Fatalf("%x, %q", body, room)
	}
	kept := bytes.Clone(signed)
	says, err3 := request.Parse(signed)
	checked, err4 := request.Check(g, signed)
	read, err5 := request.Read(body)
	if err := errors.Join(err1, err2, err3, err4, err5); err != nil {
		t.Fatal(err)
	}
	for _, b := range [][]byte{body, signed} {
		b = b[:cap(b)]
		for i := range b {
			b[i] ^= 0x55
		}
	}
	for what, q := range map[string]api.Request{"parsed": says, "checked": checked, "read": read} {
		if !equal(q, web()) {
			t.Errorf("%s: %+v, of what was written over", what, q)
		}
	}
	clear(says.Alts[:cap(says.Alts)])
	if !equal(checked, web()) || !equal(read, web()) {
		t.Errorf("%+v and %+v, of what was written over", checked, read)
	}
	if got, err := request.Check(g, kept); err != nil || !equal(got, web()) || g.Signed() != 1 {
		t.Errorf("%+v, %v; %d are signed", got, err, g.Signed())
	}
}

// FuzzSign looks for what a request says of which the chapter tells something else.
func FuzzSign(f *testing.F) {
	f.Add(2, "shop", "web", id0, 3, 86400, "web web-1")
	f.Add(4, "", "n", id1, 15, 253402300799, "")
	f.Add(5, "", "root", id0, 1, 1, "a")
	f.Fuzz(func(t *testing.T, kind int, space, name, key string, usages, duration int, alts string) {
		q := api.Request{Subject: api.Subject{Kind: kind, Space: space, Name: name}, Key: key, Usages: usages, Duration: duration, Alts: strings.Fields(alts)}
		holdRequest(t, q)
		g := ringOf(t, draw0)
		b, err := request.Sign(g, q)
		if (err == nil) != (wantRight(q) && key == id0) {
			t.Fatalf("%+v: %x, %v", q, b, err)
		}
		holdBytes(t, g, b)
	})
}
