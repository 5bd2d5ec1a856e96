package request_test

import (
	"bytes"
	"errors"
	"math/rand"
	"slices"
	"strings"
	"testing"

	"bulla/api"
	"bulla/request"
)

// The places of fields.
const (
	atSubject = iota
	atKey
	atUsages
	atDuration
	atAlts
)

// with is the body of web's fields, with others at some places.
func with(others map[int][]byte) []byte {
	fields := fieldsByHand(web())
	for at, other := range others {
		fields[at] = other
	}
	return byHand(0x30, fields...)
}

// wrongField is bytes at a place of a body, with the error that comes of them.
type wrongField struct {
	what string
	at   int
	b    []byte
	err  error
}

// wrongFields is fields that can't be read.
func wrongFields() []wrongField {
	kind, space, name := partByHand(1, "workload"), partByHand(2, "shop"), partByHand(3, "web")
	return []wrongField{
		{"no parts", atSubject, []byte{0x30, 0}, api.ErrName},
		{"a kind that is none", atSubject, byHand(0x30, partByHand(1, "user"), name), api.ErrName},
		{"a workload without a namespace", atSubject, byHand(0x30, kind, name), api.ErrName},
		{"a CA with a namespace", atSubject, byHand(0x30, partByHand(1, "ca"), space, name), api.ErrName},
		{"another order of parts", atSubject, byHand(0x30, kind, name, space), api.ErrName},
		{"nine parts", atSubject, byHand(0x30, kind, space, name, name, name, name, name, name, name), api.ErrLong},
		{"a part without a text", atSubject, byHand(0x30, kind, space, byHand(0x30, name[2:9])), api.ErrShort},
		{"a name of 65 bytes", atSubject, byHand(0x30, kind, space, partByHand(3, strings.Repeat("x", 65))), api.ErrLong},
		{"a name of 25 bytes", atSubject, byHand(0x30, kind, space, partByHand(3, strings.Repeat("x", 25))), api.ErrName},
		{"a subject's text", atSubject, textByHand("workload:shop/web"), api.ErrTag},
		{"a key's number of no bytes", atKey, []byte{4, 0}, api.ErrShort},
		{"a key's number of a byte", atKey, []byte{4, 1, 5}, api.ErrShort},
		{"a key's number of 15 bytes", atKey, byHand(4, make([]byte, 15)), api.ErrShort},
		{"a key's number of 17 bytes", atKey, byHand(4, make([]byte, 17)), api.ErrLong},
		{"a key", atKey, byHand(4, make([]byte, 32)), api.ErrLong},
		{"figures", atKey, textByHand(id0), api.ErrTag},
		{"figures as bytes", atKey, byHand(4, []byte(id0)), api.ErrLong},
		{"usages of no bytes", atUsages, []byte{3, 0}, api.ErrShort},
		{"usages of bits that don't count", atUsages, []byte{3, 2, 6, 0xd0}, api.ErrForm},
		{"usages with a needless bit", atUsages, []byte{3, 2, 5, 0xc0}, api.ErrForm},
		{"usages of three bytes of bits", atUsages, []byte{3, 4, 0, 1, 1, 1}, api.ErrForm},
		{"a usage of bit 15", atUsages, []byte{3, 3, 0, 0x80, 1}, api.ErrRange},
		{"usages as a number", atUsages, []byte{2, 1, 3}, api.ErrTag},
		{"a duration of no bytes", atDuration, []byte{2, 0}, api.ErrShort},
		{"a duration with a needless nought", atDuration, []byte{2, 2, 0, 5}, api.ErrForm},
		{"a duration below 0 with a needless byte", atDuration, []byte{2, 2, 255, 128}, api.ErrForm},
		{"a duration of nine bytes", atDuration, []byte{2, 9, 1, 0, 0, 0, 0, 0, 0, 0, 0}, api.ErrRange},
		{"a duration of eight bytes", atDuration, []byte{2, 8, 127, 255, 255, 255, 255, 255, 255, 255}, api.ErrRange},
		{"no duration", atDuration, []byte{2, 1, 0}, api.ErrRange},
		{"a duration below 0", atDuration, []byte{2, 1, 255}, api.ErrRange},
		{"a duration beyond the last moment", atDuration, intByHand(lastMoment + 1), api.ErrRange},
		{"a duration as a choice", atDuration, []byte{10, 1, 5}, api.ErrTag},
		{"a duration as a moment", atDuration, byHand(0x18, []byte("20000301000000Z")), api.ErrTag},
		{"nine other names", atAlts, altsByHand("a", "b", "c", "d", "e", "f", "g", "h", "i"), api.ErrLong},
		{"nine other names, not rising", atAlts, altsByHand("a", "a", "a", "a", "a", "a", "a", "a", "a"), api.ErrLong},
		{"nine other names, the eighth one empty", atAlts, altsByHand("a", "b", "c", "d", "e", "f", "g", "", "i"), api.ErrShort},
		{"nine other names, the ninth one empty", atAlts, altsByHand("a", "b", "c", "d", "e", "f", "g", "h", ""), api.ErrLong},
		{"an empty name", atAlts, altsByHand(""), api.ErrShort},
		{"a name of 25 bytes", atAlts, altsByHand(strings.Repeat("x", 25)), api.ErrLong},
		{"a name of 25 bytes that isn't plain", atAlts, altsByHand(strings.Repeat("\n", 25)), api.ErrLong},
		{"a name that isn't plain", atAlts, altsByHand("a\x7f"), api.ErrText},
		{"a name that isn't UTF-8", atAlts, altsByHand("\xff"), api.ErrText},
		{"bytes for a name", atAlts, byHand(0x30, byHand(4, []byte("a"))), api.ErrTag},
		{"a name that isn't plain behind one that is no label", atAlts, altsByHand("Web", "\n"), api.ErrText},
		{"names as a set", atAlts, byHand(0x31, textByHand("a")), api.ErrTag},
		{"a name alone", atAlts, textByHand("a"), api.ErrTag},
	}
}

// wrongTogether is fields that can be read, and say what isn't right: it is asked behind all fields.
func wrongTogether() []wrongField {
	return []wrongField{
		{"a CA", atSubject, subjectByHand(api.Subject{Kind: api.CA, Name: "root"}), api.ErrForm},
		{"a usage of bit 14", atUsages, []byte{3, 3, 1, 0x80, 2}, api.ErrForm},
		{"a usage of bit 4", atUsages, []byte{3, 2, 3, 0x88}, api.ErrForm},
		{"no usages", atUsages, []byte{3, 1, 0}, api.ErrForm},
		{"a name that is no label", atAlts, altsByHand("Web"), api.ErrForm},
		{"a name with a hyphen at its end", atAlts, altsByHand("web-"), api.ErrForm},
		{"a name twice", atAlts, altsByHand("a", "a"), api.ErrForm},
		{"names that don't rise", atAlts, altsByHand("b", "a"), api.ErrForm},
	}
}

// allWrong is all wrong fields.
func allWrong() []wrongField { return append(wrongFields(), wrongTogether()...) }

// P12.1: a body of which a field isn't right; Parse has the same errors, behind those of the signature.
func TestWrongFields(t *testing.T) {
	g := ringOf(t, draw0)
	for _, w := range allWrong() {
		body := with(map[int][]byte{w.at: w.b})
		if got, err := request.Read(body); !errors.Is(err, w.err) || !zero(got) {
			t.Errorf("%s, at %d: %+v, %v, wanted %v", w.what, w.at, got, err, w.err)
		}
		holdBody(t, body)
		for n, want := range map[int]error{31: api.ErrShort, 32: w.err, 33: api.ErrLong} {
			b := joinByHand(body, make([]byte, n))
			if got, err := request.Parse(b); !errors.Is(err, want) || !zero(got) {
				t.Errorf("%s, and a signature of %d bytes: %+v, %v, wanted %v", w.what, n, got, err, want)
			}
			holdBytes(t, g, b)
		}
	}
}

// P12.1: of two fields that can't be read the first one's error is the answer; what can be read comes behind them all.
func TestTwoWrongFields(t *testing.T) {
	hold := func(a, b wrongField, want error) {
		both := with(map[int][]byte{a.at: a.b, b.at: b.b})
		if got, err := request.Read(both); !errors.Is(err, want) || !zero(got) {
			t.Fatalf("%s, at %d, and %s, at %d: %v, wanted %v", a.what, a.at, b.what, b.at, err, want)
		}
		holdBody(t, both)
	}
	for _, a := range wrongFields() {
		for _, b := range wrongFields() {
			if a.at < b.at {
				hold(a, b, a.err)
			}
		}
		for _, b := range wrongTogether() {
			if a.at != b.at {
				hold(a, b, a.err)
			}
		}
	}
	for _, a := range wrongTogether() {
		for _, b := range wrongTogether() {
			if a.at != b.at {
				hold(a, b, api.ErrForm)
			}
		}
	}
}

// P12.1: bodies that lack fields, have more, or have them in another order; End's error comes last.
func TestOtherFields(t *testing.T) {
	fields := fieldsByHand(web())
	for i := range fields {
		without := slices.Delete(slices.Clone(fields), i, i+1)
		wantErr := api.ErrTag
		if i == len(fields)-1 {
			wantErr = api.ErrShort
		}
		if got, err := request.Read(byHand(0x30, without...)); !errors.Is(err, wantErr) || !zero(got) {
			t.Errorf("without %d: %+v, %v, wanted %v", i, got, err, wantErr)
		}
		if got, err := request.Read(byHand(0x30, fields[:i]...)); !errors.Is(err, api.ErrShort) || !zero(got) {
			t.Errorf("the first %d: %+v, %v", i, got, err)
		}
		for j := range fields {
			holdBody(t, byHand(0x30, slices.Insert(slices.Clone(fields), i, fields[j])...))
			turned := slices.Clone(fields)
			turned[i], turned[j] = turned[j], turned[i]
			if i != j {
				if got, err := request.Read(byHand(0x30, turned...)); !errors.Is(err, api.ErrTag) && !errors.Is(err, api.ErrName) || !zero(got) {
					t.Errorf("%d and %d turned: %+v, %v", i, j, got, err)
				}
			}
			holdBody(t, byHand(0x30, turned...))
		}
	}
	whole := byHand(0x30, fields...)
	more := append(slices.Clone(fields), []byte{5, 0})
	wrongMore := slices.Clone(more)
	wrongMore[atUsages] = []byte{3, 1, 0}
	for what, c := range map[string]struct {
		b   []byte
		err error
	}{
		"no bytes":                                 {nil, api.ErrShort},
		"an empty list":                            {[]byte{0x30, 0}, api.ErrShort},
		"one more field":                           {byHand(0x30, more...), api.ErrForm},
		"one more, and usages that aren't right":   {byHand(0x30, wrongMore...), api.ErrForm},
		"one more, and a field that can't be read": {byHand(0x30, fields[0], fields[1], fields[2], []byte{2, 1, 0}, fields[4], fields[4]), api.ErrRange},
		"something behind it":                      {append(bytes.Clone(whole), 5, 0), api.ErrForm},
		"something behind it that is none":         {append(bytes.Clone(whole), 7), api.ErrForm},
		"twice":                                    {append(bytes.Clone(whole), whole...), api.ErrForm},
		"another tag":                              {byHand(0xa0, fields...), api.ErrTag},
		"a set, out of order":                      {byHand(0x31, fields...), api.ErrOrder},
		"bytes":                                    {byHand(4, fields...), api.ErrTag},
		"a list of it":                             {byHand(0x30, whole), api.ErrTag},
		"a tag that isn't known":                   {append([]byte{7}, whole[1:]...), api.ErrTag},
		"a length that could be shorter":           {slices.Concat([]byte{0x30, 0x81}, whole[1:]), api.ErrForm},
		"its end missing":                          {whole[:len(whole)-1], api.ErrShort},
		"more bytes than may be":                   {byHand(0x30, append(slices.Clone(fields), byHand(4, make([]byte, api.MaxBytes)))...), api.ErrLong},
		"something wrong at the end, and an early field": {with(map[int][]byte{atKey: {4, 0}, atAlts: {0x30, 1, 7}}), api.ErrTag},
	} {
		if got, err := request.Read(c.b); !errors.Is(err, c.err) || !zero(got) {
			t.Errorf("%s: %+v, %v, wanted %v", what, got, err, c.err)
		}
		holdBody(t, c.b)
	}
}

// P12.1: bodies of right requests, changed byte by byte, cut, and with a byte put in.
func TestBodyChanged(t *testing.T) {
	its := []byte{0, 1, 2, 3, 4, 6, 10, 12, 15, 16, 17, 0x18, '-', '0', 'a', 0x30, 0x31, 0x7f, 0x80, 0x81, 0xa0, 0xff}
	for _, q := range append(someRight(rand.New(rand.NewSource(124)), 15), web()) {
		b := bodyByHand(q)
		for i := range b {
			holdBody(t, b[:i])
			holdBody(t, b[i:])
			for _, x := range its {
				changed := bytes.Clone(b)
				changed[i] = x
				holdBody(t, changed)
				changed[i] = b[i] ^ x
				holdBody(t, changed)
				holdBody(t, slices.Insert(bytes.Clone(b), i, x))
			}
			holdBody(t, slices.Delete(bytes.Clone(b), i, i+1))
		}
	}
	b := bodyByHand(web())
	for i := range b {
		for x := range 256 {
			changed := bytes.Clone(b)
			changed[i] = byte(x)
			holdBody(t, changed)
		}
	}
}

// chance makes bodies by chance.
type chance struct {
	*rand.Rand
	right []api.Request
	wrong []wrongField
	names []string
}

func newChance(seed int64) chance {
	r := rand.New(rand.NewSource(seed))
	return chance{r, someRight(r, 2000), allWrong(), append(labels(), noLabels()[:12]...)}
}

// body is one like a request's, with things amiss here and there.
func (r chance) body() []byte {
	fields := fieldsByHand(pick(r.Rand, r.right...))
	for range r.Intn(3) {
		w := pick(r.Rand, r.wrong...)
		fields[w.at] = w.b
		if r.Intn(20) == 0 {
			fields[r.Intn(len(fields))] = w.b
		}
	}
	if r.Intn(10) == 0 {
		var names []string
		for range r.Intn(11) {
			names = append(names, pick(r.Rand, r.names...))
		}
		if r.Intn(2) == 0 {
			slices.Sort(names)
		}
		fields[atAlts] = altsByHand(names...)
	}
	if r.Intn(20) == 0 {
		fields = slices.Insert(fields, r.Intn(len(fields)+1), pick(r.Rand, fields...))
	}
	if r.Intn(20) == 0 {
		at := r.Intn(len(fields))
		fields = slices.Delete(fields, at, at+1)
	}
	return byHand(pick(r.Rand, 0x30, 0x30, 0x30, 0x30, 0x30, 0x30, 0x30, 0x30, 0xa0), fields...)
}

// P12.1: bodies by chance, some right, most not.
func TestBodiesByChance(t *testing.T) {
	r := newChance(125)
	told := map[error]int{}
	for range 50000 {
		b := r.body()
		holdBody(t, b)
		_, err := request.Read(b)
		told[err]++
	}
	for _, err := range []error{nil, api.ErrName, api.ErrShort, api.ErrLong, api.ErrTag, api.ErrForm, api.ErrText, api.ErrRange} {
		if told[err] < 100 {
			t.Errorf("%v was told but %d times", err, told[err])
		}
	}
}

// P12.1: requests by chance, with bodies and signatures of all kinds.
func TestRequestsByChance(t *testing.T) {
	g := ringOf(t, draw0)
	r := newChance(126)
	told := map[error]int{}
	for range 20000 {
		body := r.body()
		signature := make([]byte, 32)
		if r.Intn(3) > 0 {
			signature, _ = g.Sign(id0, pick(r.Rand, "request", "request", "cert"), body)
		}
		b := joinByHand(body, signature[:pick(r.Rand, 32, 32, 32, 32, 31)])
		holdBytes(t, g, b)
		_, err := request.Check(g, b)
		told[err]++
	}
	for _, err := range []error{nil, api.ErrKey, api.ErrProof, api.ErrForm, api.ErrShort, api.ErrTag} {
		if told[err] < 100 {
			t.Errorf("%v was told but %d times", err, told[err])
		}
	}
}

// P12.1: requests that are signed, changed byte by byte, cut, and with a byte put in.
func TestRequestChanged(t *testing.T) {
	g := ringOf(t, draw0)
	r := rand.New(rand.NewSource(127))
	for _, q := range someRight(r, 4) {
		q.Key = id0
		b, err := request.Sign(g, q)
		if err != nil {
			t.Fatal(err)
		}
		for i := range b {
			holdBytes(t, g, b[:i])
			holdBytes(t, g, b[i:])
			holdBytes(t, g, slices.Delete(bytes.Clone(b), i, i+1))
			for range 12 {
				changed := bytes.Clone(b)
				changed[i] = byte(r.Intn(256))
				holdBytes(t, g, changed)
				holdBytes(t, g, slices.Insert(bytes.Clone(b), i, byte(r.Intn(256))))
			}
		}
	}
}

// P12.1: unlike right requests have unlike bodies, and each body tells the one that it is of.
func TestOneBodyEach(t *testing.T) {
	told := map[string]api.Request{}
	hold := func(q api.Request) {
		if !request.Right(q) {
			return
		}
		b, err := request.Body(q)
		if before, is := told[string(b)]; err != nil || is && !equal(before, q) {
			t.Fatalf("%+v and %+v are both %x, %v", before, q, b, err)
		}
		told[string(b)] = q
	}
	for _, change := range changes() {
		q := web()
		change.do(&q)
		hold(q)
	}
	for _, q := range someRight(rand.New(rand.NewSource(128)), 5000) {
		hold(q)
	}
	for b, q := range told {
		if got, err := request.Read([]byte(b)); err != nil || !equal(got, q) {
			t.Fatalf("%+v: of %x %+v, %v", q, b, got, err)
		}
	}
	if len(told) < 4000 {
		t.Errorf("%d bodies", len(told))
	}
}

// FuzzRead looks for bodies of which the chapter tells something else.
func FuzzRead(f *testing.F) {
	f.Add([]byte{})
	f.Add(bodyByHand(web()))
	for _, w := range allWrong() {
		f.Add(with(map[int][]byte{w.at: w.b}))
	}
	f.Fuzz(holdBody)
}

// FuzzCheck looks for requests of which the chapter tells something else.
func FuzzCheck(f *testing.F) {
	g := ringOf(f, draw0)
	b, err := request.Sign(g, web())
	if err != nil {
		f.Fatal(err)
	}
	f.Add([]byte{})
	f.Add(b)
	f.Add(joinByHand(bodyByHand(web()), make([]byte, 32)))
	f.Fuzz(func(t *testing.T, b []byte) { holdBytes(t, g, b) })
}
