package cert_test

import (
	"bytes"
	"errors"
	"math/rand"
	"slices"
	"testing"

	"bulla/api"
	"bulla/cert"
	"bulla/tlv"
)

// holdJoin holds Join against what the chapter tells; what it makes is split again, if it can be read.
func holdJoin(t *testing.T, body, signature []byte) {
	t.Helper()
	keptBody, keptSignature := bytes.Clone(body), bytes.Clone(signature)
	got, err := cert.Join(body, signature)
	if want, wantErr := wantJoin(body, signature); !same(err, wantErr) || !bytes.Equal(got, want) || err != nil && got != nil {
		t.Fatalf("%.300x and %.300x: %.300x, %v, wanted %.300x, %v", body, signature, got, err, want, wantErr)
	}
	if !bytes.Equal(body, keptBody) || !bytes.Equal(signature, keptSignature) {
		t.Fatalf("changed, to %.300x and %.300x, from %.300x and %.300x", body, signature, keptBody, keptSignature)
	}
	if err != nil {
		return
	}
	its, its2, err := cert.Split(got)
	if tlv.Depth(body) == api.MaxDepth { // what is joined has one level more
		if !errors.Is(err, api.ErrDepth) || its != nil || its2 != nil {
			t.Fatalf("%x: %x, %x, %v", got, its, its2, err)
		}
	} else if err != nil || !bytes.Equal(its, body) || !bytes.Equal(its2, signature) {
		t.Fatalf("%.300x: %.300x, %.300x, %v", got, its, its2, err)
	}
}

// deep is lists in one another.
func deep(levels int) []byte {
	var b []byte
	for range levels {
		b = byHand(0x30, b)
	}
	return b
}

// bodies is whole elements of all kinds, and bytes that are none, with the error that comes of them.
func bodies() map[error][][]byte {
	return map[error][][]byte{
		nil:          {bodyByHand(web()), {5, 0}, {2, 1, 5}, {2, 0}, {4, 0}, {0x30, 0}, {0x31, 0}, {0xaf, 2, 5, 0}, byHand(4, make([]byte, 127)), byHand(4, make([]byte, 128)), byHand(4, make([]byte, 300)), deep(15), deep(16), joinByHand(bodyByHand(web()), make([]byte, 32))},
		api.ErrShort: {nil, {}, {5}, {4, 1}, {0x30}, {0x30, 1}, {0x30, 0x81}, {0x30, 1, 5}, bodyByHand(web())[:100]},
		api.ErrTag:   {{0}, {7, 0}, {0x30, 2, 7, 0}, {0x10, 0}},
		api.ErrForm:  {{5, 0, 0}, {5, 0, 5, 0}, {5, 0x80}, {0x30, 0x81, 0}, {0x30, 3, 5, 0x81, 0}, {4, 0x85, 1, 1, 1, 1, 1}, append(bodyByHand(web()), 0)},
		api.ErrDepth: {deep(17)},
		api.ErrOrder: {{0x31, 4, 5, 0, 4, 0}, byHand(0x30, []byte{0x31, 4, 5, 0, 4, 0})},
		api.ErrLong:  {make([]byte, 65537), {4, 0x83, 1, 0, 0}},
	}
}

// P11.1: Join of right things and wrong ones: what is wrong with the body comes first.
func TestJoin(t *testing.T) {
	for want, list := range bodies() {
		for _, body := range list {
			for n := range 100 {
				signature := bytes.Repeat([]byte{byte(n)}, n)
				wantErr := want
				if want == nil && n != 32 {
					wantErr = api.ErrForm
				}
				if got, err := cert.Join(body, signature); !same(err, wantErr) || err != nil && got != nil {
					t.Errorf("%.100x and %d bytes: %.100x, %v, wanted %v", body, n, got, err, wantErr)
				}
				holdJoin(t, body, signature)
			}
			holdJoin(t, body, nil)
			holdJoin(t, body, make([]byte, 1<<20))
		}
	}
}

// P11.1: bodies as long as can be, and longer ones; a signature of another length comes first.
func TestJoinLong(t *testing.T) {
	for _, c := range []struct {
		n   int // bytes of the body
		err error
	}{{65490, nil}, {65495, nil}, {65496, nil}, {65497, api.ErrLong}, {65498, api.ErrLong}, {65533, api.ErrLong}, {65534, api.ErrLong}} {
		body := byHand(4, make([]byte, c.n-4))
		if len(body) != c.n || tlv.Check(body) != nil {
			t.Fatalf("%d bytes, wanted %d: %v", len(body), c.n, tlv.Check(body))
		}
		got, err := cert.Join(body, make([]byte, 32))
		if !same(err, c.err) || err != nil && got != nil {
			t.Errorf("%d bytes: %d, %v, wanted %v", c.n, len(got), err, c.err)
		}
		holdJoin(t, body, make([]byte, 32))
		if got, err := cert.Join(body, make([]byte, 31)); !errors.Is(err, api.ErrForm) || got != nil {
			t.Errorf("%d bytes, and a signature of 31: %d, %v", c.n, len(got), err)
		}
	}
}

// P11.1: Split of right things and wrong ones, with the error that comes first.
func TestSplit(t *testing.T) {
	g := ringOf(t, draw0)
	body, signature := bodyByHand(web()), byHand(4, make([]byte, 32))
	for what, c := range map[string]struct {
		b   []byte
		err error
	}{
		"a body and a signature":                  {byHand(0x30, body, signature), nil},
		"another element and a signature":         {byHand(0x30, []byte{5, 0}, signature), nil},
		"two signatures":                          {byHand(0x30, signature, signature), nil},
		"as deep as can be":                       {byHand(0x30, deep(15), signature), nil},
		"too deep":                                {byHand(0x30, deep(16), signature), api.ErrDepth},
		"no bytes":                                {nil, api.ErrShort},
		"an empty list":                           {[]byte{0x30, 0}, api.ErrShort},
		"a body alone":                            {byHand(0x30, body), api.ErrShort},
		"a signature alone":                       {byHand(0x30, signature), api.ErrShort},
		"a list of signatures alone":              {signature, api.ErrTag},
		"the other order":                         {byHand(0x30, signature, body), api.ErrTag},
		"a set":                                   {byHand(0x31, signature, body), api.ErrTag},
		"a set out of order":                      {byHand(0x31, body, signature), api.ErrOrder},
		"another tag":                             {byHand(0xa0, body, signature), api.ErrTag},
		"a text for a signature":                  {byHand(0x30, body, textByHand(string(make([]byte, 32)))), api.ErrTag},
		"a signature of no bytes":                 {byHand(0x30, body, []byte{4, 0}), api.ErrShort},
		"a signature of 31 bytes":                 {byHand(0x30, body, byHand(4, make([]byte, 31))), api.ErrShort},
		"a signature of 33 bytes":                 {byHand(0x30, body, byHand(4, make([]byte, 33))), api.ErrLong},
		"a signature of 64 bytes":                 {byHand(0x30, body, byHand(4, make([]byte, 64))), api.ErrLong},
		"one more":                                {byHand(0x30, body, signature, []byte{5, 0}), api.ErrForm},
		"one more signature":                      {byHand(0x30, body, signature, signature), api.ErrForm},
		"one more, behind a short signature":      {byHand(0x30, body, []byte{4, 0}, []byte{5, 0}), api.ErrShort},
		"something behind it":                     {append(byHand(0x30, body, signature), 5, 0), api.ErrForm},
		"something that is none behind it":        {append(byHand(0x30, body, signature), 7), api.ErrForm},
		"a body that isn't whole":                 {byHand(0x30, []byte{0x30, 1, 7}, signature), api.ErrTag},
		"one more that isn't whole":               {byHand(0x30, body, byHand(4, nil), []byte{0x30, 1, 4}), api.ErrShort},
		"more bytes than may be":                  {byHand(0x30, byHand(4, make([]byte, 65500)), signature), api.ErrLong},
		"as many as may be":                       {byHand(0x30, byHand(4, make([]byte, 65492)), signature), nil},
		"a length that could be shorter":          {append([]byte{0x30, 0x81, 36, 5, 0}, signature...), api.ErrForm},
		"a signature's length that could be, too": {byHand(0x30, body, append([]byte{4, 0x81, 32}, signature[2:]...)), api.ErrForm},
	} {
		its, its2, err := cert.Split(c.b)
		if !same(err, c.err) || err != nil && (its != nil || its2 != nil) {
			t.Errorf("%s: %.100x, %x, %v, wanted %v", what, its, its2, err, c.err)
		}
		holdBytes(t, g, c.b)
	}
	for n := range 200 {
		holdBytes(t, g, byHand(0x30, body, byHand(4, make([]byte, n))))
	}
}

// P11.1: Parse's errors: Split's first, then Read's of the body.
func TestParseErrors(t *testing.T) {
	g := ringOf(t, draw0)
	for _, w := range allWrong() {
		body := with(map[int][]byte{w.at: w.b})
		if got, err := cert.Parse(joinByHand(body, make([]byte, 32))); !errors.Is(err, w.err) || !zero(got) {
			t.Errorf("%s: %+v, %v, wanted %v", w.what, got, err, w.err)
		}
		if got, err := cert.Parse(joinByHand(body, make([]byte, 33))); !errors.Is(err, api.ErrLong) || !zero(got) {
			t.Errorf("%s, and a signature of 33 bytes: %+v, %v", w.what, got, err)
		}
		if got, err := cert.Parse(byHand(0x30, body)); !errors.Is(err, api.ErrShort) || !zero(got) {
			t.Errorf("%s, and no signature: %+v, %v", w.what, got, err)
		}
		holdBytes(t, g, joinByHand(body, make([]byte, 32)))
	}
	if got, err := cert.Parse(joinByHand(bodyByHand(web()), make([]byte, 32))); err != nil || !equal(got, web()) {
		t.Errorf("not signed by anybody: %+v, %v", got, err)
	}
}

// P11.1: certificates that are signed, changed byte by byte, cut, and with a byte put in.
func TestCertificateChanged(t *testing.T) {
	g := ringOf(t, draw0)
	r := rand.New(rand.NewSource(117))
	for range 4 {
		c := someRight(r, 1)[0]
		c.Issuer = id0
		b, err := cert.Sign(g, c)
		if err != nil {
			t.Fatal(err)
		}
		for i := range b {
			holdBytes(t, g, b[:i])
			holdBytes(t, g, b[i:])
			holdBytes(t, g, slices.Delete(bytes.Clone(b), i, i+1))
			for range 12 {
				changed := bytes.Clone(b)
				changed[i] = byte(r.Intn(256))
				holdBytes(t, g, changed)
				holdBytes(t, g, slices.Insert(bytes.Clone(b), i, byte(r.Intn(256))))
			}
		}
	}
}

// P11.1: certificates by chance, with bodies and signatures of all kinds.
func TestCertificatesByChance(t *testing.T) {
	g := ringOf(t, draw0)
	r := newChance(118)
	told := map[error]int{}
	for range 20000 {
		body := r.body()
		signature := make([]byte, 32)
		if r.Intn(3) > 0 {
			signature, _ = g.Sign(id0, pick(r.Rand, "cert", "cert", "request"), body)
		}
		b := joinByHand(body, signature[:pick(r.Rand, 32, 32, 32, 32, 31)])
		holdBytes(t, g, b)
		_, err := cert.Check(g, b)
		told[err]++
	}
	for _, err := range []error{nil, api.ErrKey, api.ErrSign, api.ErrForm, api.ErrShort, api.ErrTag} {
		if told[err] < 100 {
			t.Errorf("%v was told but %d times", err, told[err])
		}
	}
}

// FuzzCheck looks for certificates of which the chapter tells something else.
func FuzzCheck(f *testing.F) {
	g := ringOf(f, draw0)
	b, err := cert.Sign(g, web())
	if err != nil {
		f.Fatal(err)
	}
	f.Add([]byte{})
	f.Add(b)
	f.Add(joinByHand(bodyByHand(web()), make([]byte, 32)))
	f.Fuzz(func(t *testing.T, b []byte) { holdBytes(t, g, b) })
}
