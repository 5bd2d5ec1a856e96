package pass_test

import (
	"bytes"
	"errors"
	"math/rand"
	"slices"
	"strings"
	"testing"

	"bulla/api"
	"bulla/keys"
	"bulla/pass"
)

// The places of fields.
const (
	atSerial = iota
	atIssuer
	atGen
	atAccount
	atAudience
	atBound
	atExpiry
)

// with is the body of web's fields, with others at some places.
func with(others map[int][]byte) []byte {
	fields := fieldsByHand(web())
	for at, other := range others {
		fields[at] = other
	}
	return byHand(0x30, fields...)
}

// wrongField is bytes at a place of a body, with the error that comes of them.
type wrongField struct {
	what string
	at   int
	b    []byte
	err  error
}

// wrongNumbers is serial numbers and generations that can't be read.
func wrongNumbers(at, most int) []wrongField {
	return []wrongField{
		{"a number of no bytes", at, []byte{2, 0}, api.ErrShort},
		{"a number with a needless nought", at, []byte{2, 2, 0, 5}, api.ErrForm},
		{"a number below 0 with a needless byte", at, []byte{2, 2, 255, 128}, api.ErrForm},
		{"a number of nine bytes", at, []byte{2, 9, 1, 0, 0, 0, 0, 0, 0, 0, 0}, api.ErrRange},
		{"a number of eight bytes", at, []byte{2, 8, 127, 255, 255, 255, 255, 255, 255, 255}, api.ErrRange},
		{"no number", at, []byte{2, 1, 0}, api.ErrRange},
		{"a number below 0", at, []byte{2, 1, 255}, api.ErrRange},
		{"a number that is too great", at, intByHand(most + 1), api.ErrRange},
		{"a number as a choice", at, []byte{10, 1, 5}, api.ErrTag},
		{"a number as figures", at, textByHand("5"), api.ErrTag},
	}
}

// wrongIDs is keys' numbers that can't be read.
func wrongIDs(at int) []wrongField {
	return []wrongField{
		{"a key's number of no bytes", at, []byte{4, 0}, api.ErrShort},
		{"a key's number of a byte", at, []byte{4, 1, 5}, api.ErrShort},
		{"a key's number of 15 bytes", at, byHand(4, make([]byte, 15)), api.ErrShort},
		{"a key's number of 17 bytes", at, byHand(4, make([]byte, 17)), api.ErrLong},
		{"a key", at, byHand(4, make([]byte, 32)), api.ErrLong},
		{"figures", at, textByHand(id0), api.ErrTag},
		{"figures as bytes", at, byHand(4, []byte(id0)), api.ErrLong},
	}
}

// wrongFields is fields that can't be read.
func wrongFields() []wrongField {
	kind, space, name := partByHand(1, "workload"), partByHand(2, "shop"), partByHand(3, "web")
	return slices.Concat(wrongNumbers(atSerial, mostSerial), wrongIDs(atIssuer), wrongNumbers(atGen, mostGen), wrongIDs(atBound), []wrongField{
		{"no parts", atAccount, []byte{0x30, 0}, api.ErrName},
		{"a kind that is none", atAccount, byHand(0x30, partByHand(1, "user"), name), api.ErrName},
		{"a workload without a namespace", atAccount, byHand(0x30, kind, name), api.ErrName},
		{"a node with a namespace", atAccount, byHand(0x30, partByHand(1, "node"), space, name), api.ErrName},
		{"another order of parts", atAccount, byHand(0x30, kind, name, space), api.ErrName},
		{"nine parts", atAccount, byHand(0x30, kind, space, name, name, name, name, name, name, name), api.ErrLong},
		{"a part without a text", atAccount, byHand(0x30, kind, space, byHand(0x30, name[2:9])), api.ErrShort},
		{"a name of 65 bytes", atAccount, byHand(0x30, kind, space, partByHand(3, strings.Repeat("x", 65))), api.ErrLong},
		{"a name of 25 bytes", atAccount, byHand(0x30, kind, space, partByHand(3, strings.Repeat("x", 25))), api.ErrName},
		{"a subject's text", atAccount, textByHand("workload:shop/web"), api.ErrTag},
		{"an empty audience", atAudience, textByHand(""), api.ErrShort},
		{"an audience of 25 bytes", atAudience, textByHand(strings.Repeat("x", 25)), api.ErrLong},
		{"an audience of 25 bytes that isn't plain", atAudience, textByHand(strings.Repeat("\n", 25)), api.ErrLong},
		{"an audience that isn't plain", atAudience, textByHand("a\x7f"), api.ErrText},
		{"an audience that isn't UTF-8", atAudience, textByHand("\xff"), api.ErrText},
		{"an audience as bytes", atAudience, byHand(4, []byte("plane")), api.ErrTag},
		{"audiences", atAudience, byHand(0x30, textByHand("plane")), api.ErrTag},
		{"an expiry of no bytes", atExpiry, []byte{0x18, 0}, api.ErrForm},
		{"an expiry without a Z", atExpiry, byHand(0x18, []byte("20000301000000")), api.ErrForm},
		{"an expiry with parts of a second", atExpiry, byHand(0x18, []byte("20000301000000.5Z")), api.ErrForm},
		{"an expiry on a day that there isn't", atExpiry, byHand(0x18, []byte("20010229000000Z")), api.ErrRange},
		{"an expiry ahead of the first moment", atExpiry, byHand(0x18, []byte("19691231235959Z")), api.ErrRange},
		{"an expiry as a number", atExpiry, []byte{2, 1, 5}, api.ErrTag},
		{"an expiry as a text", atExpiry, textByHand("20000301000000Z"), api.ErrTag},
	})
}

// wrongTogether is fields that can be read, and say what isn't right: it is asked behind all fields.
func wrongTogether() []wrongField {
	return []wrongField{
		{"a node", atAccount, subjectByHand(api.Subject{Kind: api.Node, Name: "n1"}), api.ErrForm},
		{"an operator", atAccount, subjectByHand(api.Subject{Kind: api.Operator, Name: "o"}), api.ErrForm},
		{"a boot", atAccount, subjectByHand(api.Subject{Kind: api.Boot, Name: "n1"}), api.ErrForm},
		{"a CA", atAccount, subjectByHand(api.Subject{Kind: api.CA, Name: "root"}), api.ErrForm},
		{"an audience that is no label", atAudience, textByHand("Plane"), api.ErrForm},
		{"an audience with a hyphen at its end", atAudience, textByHand("plane-"), api.ErrForm},
		{"an audience beyond ASCII", atAudience, textByHand("\u00e9"), api.ErrForm},
		{"two audiences in one", atAudience, textByHand("plane shop"), api.ErrForm},
	}
}

// allWrong is all wrong fields.
func allWrong() []wrongField { return append(wrongFields(), wrongTogether()...) }

// P14.1: a body of which a field isn't right; Check and Show have the same errors, behind those of the signature.
func TestWrongFields(t *testing.T) {
	g := ringOf(t, draw0, draw1)
	for _, w := range allWrong() {
		body := with(map[int][]byte{w.at: w.b})
		if got, err := pass.Read(body); !errors.Is(err, w.err) || !zero(got) {
			t.Errorf("%s, at %d: %+v, %v, wanted %v", w.what, w.at, got, err, w.err)
		}
		holdBody(t, body)
		signature := signed(t, g, id0, "pass", body)
		for n, want := range map[int]error{31: api.ErrShort, 32: w.err, 33: api.ErrLong} {
			b := joinByHand(body, append(bytes.Clone(signature), 0)[:n])
			if got, err := pass.Check(g, b); !errors.Is(err, want) || !zero(got) {
				t.Errorf("%s, and a signature of %d bytes: %+v, %v, wanted %v", w.what, n, got, err, want)
			}
			if got, err := pass.Show(g, b, -1); !errors.Is(err, want) || got != nil {
				t.Errorf("%s, and a signature of %d bytes, to be shown: %x, %v, wanted %v", w.what, n, got, err, want)
			}
			holdToken(t, g, b, 5)
		}
	}
}

// P14.1: fields at the edges of what can be read.
func TestEdgesOfFields(t *testing.T) {
	for _, c := range []struct {
		at int
		b  []byte
		do func(p *api.Pass)
	}{
		{atSerial, []byte{2, 1, 1}, func(p *api.Pass) { p.Serial = 1 }},
		{atSerial, []byte{2, 6, 1, 0, 0, 0, 0, 0}, func(p *api.Pass) { p.Serial = 1 << 40 }},
		{atGen, []byte{2, 1, 1}, func(p *api.Pass) { p.Gen = 1 }},
		{atGen, []byte{2, 3, 16, 0, 0}, func(p *api.Pass) { p.Gen = 1 << 20 }},
		{atIssuer, byHand(4, make([]byte, 16)), func(p *api.Pass) { p.Issuer = strings.Repeat("0", 32) }},
		{atBound, byHand(4, bytes.Repeat([]byte{255}, 16)), func(p *api.Pass) { p.Bound = strings.Repeat("f", 32) }},
		{atAudience, textByHand("a"), func(p *api.Pass) { p.Audience = "a" }},
		{atAudience, textByHand(strings.Repeat("x", 24)), func(p *api.Pass) { p.Audience = strings.Repeat("x", 24) }},
		{atExpiry, byHand(0x18, []byte("19700101000000Z")), func(p *api.Pass) { p.Expiry = 0 }},
		{atExpiry, byHand(0x18, []byte("99991231235959Z")), func(p *api.Pass) { p.Expiry = 253402300799 }},
	} {
		want := web()
		c.do(&want)
		body := with(map[int][]byte{c.at: c.b})
		if got, err := pass.Read(body); err != nil || !equal(got, want) {
			t.Errorf("%x at %d: %+v, %v, wanted %+v", c.b, c.at, got, err, want)
		}
		holdBody(t, body)
	}
}

// P14.1: of two fields that can't be read the first one's error is the answer; what can be read comes behind them all.
func TestTwoWrongFields(t *testing.T) {
	hold := func(a, b wrongField, want error) {
		both := with(map[int][]byte{a.at: a.b, b.at: b.b})
		if got, err := pass.Read(both); !errors.Is(err, want) || !zero(got) {
			t.Fatalf("%s, at %d, and %s, at %d: %v, wanted %v", a.what, a.at, b.what, b.at, err, want)
		}
		holdBody(t, both)
	}
	for _, a := range wrongFields() {
		for _, b := range wrongFields() {
			if a.at < b.at {
				hold(a, b, a.err)
			}
		}
		for _, b := range wrongTogether() {
			if a.at != b.at {
				hold(a, b, a.err)
			}
		}
	}
	for _, a := range wrongTogether() {
		for _, b := range wrongTogether() {
			if a.at != b.at {
				hold(a, b, api.ErrForm)
			}
		}
	}
}

// P14.1: bodies that lack fields, have more, or have them in another order; End's error comes last.
func TestOtherFields(t *testing.T) {
	fields := fieldsByHand(web())
	for i := range fields {
		without := slices.Delete(slices.Clone(fields), i, i+1)
		wantErr := api.ErrTag
		if i == len(fields)-1 {
			wantErr = api.ErrShort
		}
		if got, err := pass.Read(byHand(0x30, without...)); !errors.Is(err, wantErr) || !zero(got) {
			t.Errorf("without %d: %+v, %v, wanted %v", i, got, err, wantErr)
		}
		if got, err := pass.Read(byHand(0x30, fields[:i]...)); !errors.Is(err, api.ErrShort) || !zero(got) {
			t.Errorf("the first %d: %+v, %v", i, got, err)
		}
		for j := range fields {
			holdBody(t, byHand(0x30, slices.Insert(slices.Clone(fields), i, fields[j])...))
			turned := slices.Clone(fields)
			turned[i], turned[j] = turned[j], turned[i]
			got, err := pass.Read(byHand(0x30, turned...))
			if fields[i][0] != fields[j][0] && (!errors.Is(err, api.ErrTag) || !zero(got)) {
				t.Errorf("%d and %d turned: %+v, %v", i, j, got, err)
			}
			holdBody(t, byHand(0x30, turned...))
		}
	}
	whole := byHand(0x30, fields...)
	more := append(slices.Clone(fields), []byte{5, 0})
	wrongMore := slices.Clone(more)
	wrongMore[atAudience] = textByHand("Plane")
	early := slices.Clone(more)
	early[atGen] = []byte{2, 1, 0}
	for what, c := range map[string]struct {
		b   []byte
		err error
	}{
		"no bytes":                                  {nil, api.ErrShort},
		"an empty list":                             {[]byte{0x30, 0}, api.ErrShort},
		"one more field":                            {byHand(0x30, more...), api.ErrForm},
		"one more, and an audience that is none":    {byHand(0x30, wrongMore...), api.ErrForm},
		"one more, and a field that can't be read":  {byHand(0x30, early...), api.ErrRange},
		"something behind it":                       {append(bytes.Clone(whole), 5, 0), api.ErrForm},
		"something behind it that is none":          {append(bytes.Clone(whole), 7), api.ErrForm},
		"twice":                                     {append(bytes.Clone(whole), whole...), api.ErrForm},
		"another tag":                               {byHand(0xa0, fields...), api.ErrTag},
		"a set, out of order":                       {byHand(0x31, fields...), api.ErrOrder},
		"bytes":                                     {byHand(4, fields...), api.ErrTag},
		"a list of it":                              {byHand(0x30, whole), api.ErrTag},
		"a tag that isn't known":                    {append([]byte{7}, whole[1:]...), api.ErrTag},
		"a length that could be shorter":            {slices.Concat([]byte{0x30, 0x81}, whole[1:]), api.ErrForm},
		"its end missing":                           {whole[:len(whole)-1], api.ErrShort},
		"more bytes than may be":                    {byHand(0x30, append(slices.Clone(fields), byHand(4, make([]byte, api.MaxBytes)))...), api.ErrLong},
		"something wrong at the end, and ahead":     {with(map[int][]byte{atIssuer: {4, 0}, atExpiry: {0x30, 1, 7}}), api.ErrTag},
		"a window of moments in place of an expiry": {with(map[int][]byte{atExpiry: byHand(0x30, momentByHand(0), momentByHand(5))}), api.ErrTag},
	} {
		if got, err := pass.Read(c.b); !errors.Is(err, c.err) || !zero(got) {
			t.Errorf("%s: %+v, %v, wanted %v", what, got, err, c.err)
		}
		holdBody(t, c.b)
	}
}

// P14.1: bodies of right tokens, changed byte by byte, cut, and with a byte put in.
func TestBodyChanged(t *testing.T) {
	its := []byte{0, 1, 2, 3, 4, 6, 10, 12, 15, 16, 17, 0x18, '-', '0', '9', 'Z', 'a', 0x30, 0x31, 0x7f, 0x80, 0x81, 0xa0, 0xff}
	for _, p := range append(someRight(rand.New(rand.NewSource(145)), 15), web()) {
		b := bodyByHand(p)
		for i := range b {
			holdBody(t, b[:i])
			holdBody(t, b[i:])
			for _, x := range its {
				changed := bytes.Clone(b)
				changed[i] = x
				holdBody(t, changed)
				changed[i] = b[i] ^ x
				holdBody(t, changed)
				holdBody(t, slices.Insert(bytes.Clone(b), i, x))
			}
			holdBody(t, slices.Delete(bytes.Clone(b), i, i+1))
		}
	}
	b := bodyByHand(web())
	for i := range b {
		for x := range 256 {
			changed := bytes.Clone(b)
			changed[i] = byte(x)
			holdBody(t, changed)
		}
	}
}

// chance makes bodies by chance.
type chance struct {
	*rand.Rand
	right []api.Pass
	wrong []wrongField
}

func newChance(seed int64) chance {
	r := rand.New(rand.NewSource(seed))
	return chance{r, someRight(r, 2000), allWrong()}
}

// body is one like a token's, with things amiss here and there.
func (r chance) body() []byte {
	fields := fieldsByHand(pick(r.Rand, r.right...))
	for range r.Intn(3) {
		w := pick(r.Rand, r.wrong...)
		fields[w.at] = w.b
		if r.Intn(20) == 0 {
			fields[r.Intn(len(fields))] = w.b
		}
	}
	if r.Intn(20) == 0 {
		fields = slices.Insert(fields, r.Intn(len(fields)+1), pick(r.Rand, fields...))
	}
	if r.Intn(20) == 0 {
		at := r.Intn(len(fields))
		fields = slices.Delete(fields, at, at+1)
	}
	return byHand(pick(r.Rand, 0x30, 0x30, 0x30, 0x30, 0x30, 0x30, 0x30, 0x30, 0xa0), fields...)
}

// P14.1: bodies by chance, some right, most not.
func TestBodiesByChance(t *testing.T) {
	r := newChance(146)
	told := map[error]int{}
	for range 50000 {
		b := r.body()
		holdBody(t, b)
		_, err := pass.Read(b)
		told[err]++
	}
	for _, err := range []error{nil, api.ErrName, api.ErrShort, api.ErrLong, api.ErrTag, api.ErrForm, api.ErrText, api.ErrRange} {
		if told[err] < 100 {
			t.Errorf("%v was told but %d times", err, told[err])
		}
	}
}

// P14.1: tokens by chance, with bodies and signatures of all kinds.
func TestTokensByChance(t *testing.T) {
	var g *keys.Ring
	r := newChance(147)
	told := map[error]int{}
	for i := range 20000 {
		if i%100 == 0 { // a book that grows on makes all copies slow
			g = ringOf(t, draw0, draw1)
		}
		body := r.body()
		signature := make([]byte, 32)
		if r.Intn(3) > 0 {
			signature = signed(t, g, pick(r.Rand, id0, id1), pick(r.Rand, "pass", "pass", "show"), body)
		}
		b := joinByHand(body, signature[:pick(r.Rand, 32, 32, 32, 32, 31)])
		holdToken(t, g, b, pick(r.Rand, -1, 0, 5, lastMoment, lastMoment+1))
		_, err := pass.Check(g, b)
		told[err]++
	}
	for _, err := range []error{nil, api.ErrKey, api.ErrSign, api.ErrForm, api.ErrShort, api.ErrTag} {
		if told[err] < 100 {
			t.Errorf("%v was told but %d times", err, told[err])
		}
	}
}

// P14.1: tokens that are signed, changed byte by byte, cut, and with a byte put in.
func TestTokenChanged(t *testing.T) {
	g := ringOf(t, draw0, draw1)
	r := rand.New(rand.NewSource(148))
	for _, p := range someRight(r, 4) {
		p.Issuer, p.Bound = id0, id1
		b := tokenOf(t, g, p)
		for i := range b {
			holdToken(t, g, b[:i], 5)
			holdToken(t, g, b[i:], 5)
			holdToken(t, g, slices.Delete(bytes.Clone(b), i, i+1), 5)
			for range 8 {
				changed := bytes.Clone(b)
				changed[i] = byte(r.Intn(256))
				holdToken(t, g, changed, 5)
				holdToken(t, g, slices.Insert(bytes.Clone(b), i, byte(r.Intn(256))), 5)
			}
		}
	}
}

// P14.1: unlike right tokens have unlike bodies, and each body tells the one that it is of.
func TestOneBodyEach(t *testing.T) {
	told := map[string]api.Pass{}
	hold := func(p api.Pass) {
		if !pass.Right(p) {
			return
		}
		b, err := pass.Body(p)
		if before, is := told[string(b)]; err != nil || is && !equal(before, p) {
			t.Fatalf("%+v and %+v are both %x, %v", before, p, b, err)
		}
		told[string(b)] = p
	}
	for _, change := range changes() {
		p := web()
		change.do(&p)
		hold(p)
	}
	for _, p := range someRight(rand.New(rand.NewSource(149)), 5000) {
		hold(p)
	}
	for b, p := range told {
		if got, err := pass.Read([]byte(b)); err != nil || !equal(got, p) {
			t.Fatalf("%+v: of %x %+v, %v", p, b, got, err)
		}
	}
	if len(told) < 4000 {
		t.Errorf("%d bodies", len(told))
	}
}

// FuzzRead looks for bodies of which the chapter tells something else.
func FuzzRead(f *testing.F) {
	f.Add([]byte{})
	f.Add(bodyByHand(web()))
	for _, w := range allWrong() {
		f.Add(with(map[int][]byte{w.at: w.b}))
	}
	f.Fuzz(holdBody)
}

// FuzzCheck looks for tokens of which the chapter tells something else.
func FuzzCheck(f *testing.F) {
	g := ringOf(f, draw0, draw1)
	f.Add([]byte{}, 5)
	f.Add(tokenOf(f, g, web()), -1)
	f.Add(joinByHand(bodyByHand(web()), make([]byte, 32)), 951782400)
	f.Fuzz(func(t *testing.T, b []byte, now int) { holdToken(t, g, b, now) })
}
