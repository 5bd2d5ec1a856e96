package cert_test

import (
	"bytes"
	"errors"
	"math/rand"
	"slices"
	"strings"
	"testing"

	"bulla/api"
	"bulla/cert"
)

// with is the body of web's fields, with others at some places.
func with(others map[int][]byte) []byte {
	var body [][]byte
	for i, field := range fieldsByHand(web()) {
		if other, is := others[i]; is {
			field = other
		}
		body = append(body, field)
	}
	return byHand(0x30, body...)
}

// The places of fields.
const (
	atSerial = iota
	atIssuer
	atGen
	atSubject
	atWindow
	atKey
	atUsages
	atAlts
)

// wrongField is bytes at a place of a body, with the error that comes of them.
type wrongField struct {
	what string
	at   int
	b    []byte
	err  error
}

// wrongNumbers is fields that are no right numbers, nor keys' numbers.
func wrongNumbers() []wrongField {
	var list []wrongField
	for _, c := range []struct {
		at   int
		most int
	}{{atSerial, 1 << 40}, {atGen, 1 << 20}} {
		list = append(list,
			wrongField{"a number's body of no bytes", c.at, []byte{2, 0}, api.ErrShort},
			wrongField{"a number with a needless nought", c.at, []byte{2, 2, 0, 5}, api.ErrForm},
			wrongField{"a number below 0 with a needless byte", c.at, []byte{2, 2, 255, 128}, api.ErrForm},
			wrongField{"a number of nine bytes", c.at, []byte{2, 9, 1, 0, 0, 0, 0, 0, 0, 0, 0}, api.ErrRange},
			wrongField{"a number of eight bytes", c.at, []byte{2, 8, 127, 255, 255, 255, 255, 255, 255, 255}, api.ErrRange},
			wrongField{"0", c.at, []byte{2, 1, 0}, api.ErrRange},
			wrongField{"-1", c.at, []byte{2, 1, 255}, api.ErrRange},
			wrongField{"one above the most", c.at, intByHand(c.most + 1), api.ErrRange},
			wrongField{"a choice", c.at, []byte{10, 1, 5}, api.ErrTag},
			wrongField{"a list of a number", c.at, byHand(0x30, []byte{2, 1, 5}), api.ErrTag},
		)
	}
	for _, at := range []int{atIssuer, atKey} {
		for _, n := range []int{0, 1, 15} {
			list = append(list, wrongField{"too few bytes", at, byHand(4, make([]byte, n)), api.ErrShort})
		}
		for _, n := range []int{17, 32, 200} {
			list = append(list, wrongField{"too many bytes", at, byHand(4, make([]byte, n)), api.ErrLong})
		}
		list = append(list, wrongField{"figures", at, textByHand(id0), api.ErrTag}, wrongField{"figures as bytes", at, byHand(4, []byte(id0)), api.ErrLong})
	}
	return list
}

// wrongOthers is fields that are none of the other kinds.
func wrongOthers() []wrongField {
	first, last := momentByHand(951782400), momentByHand(951868800)
	figures := func(s string) []byte { return byHand(0x18, []byte(s)) }
	kind, space, name := partByHand(1, "workload"), partByHand(2, "shop"), partByHand(3, "web")
	return []wrongField{
		{"no parts", atSubject, []byte{0x30, 0}, api.ErrName},
		{"a kind that is none", atSubject, byHand(0x30, partByHand(1, "user"), name), api.ErrName},
		{"a workload without a namespace", atSubject, byHand(0x30, kind, name), api.ErrName},
		{"another order of parts", atSubject, byHand(0x30, kind, name, space), api.ErrName},
		{"nine parts", atSubject, byHand(0x30, kind, space, name, name, name, name, name, name, name), api.ErrLong},
		{"a part without a text", atSubject, byHand(0x30, kind, space, byHand(0x30, name[2:9])), api.ErrShort},
		{"a name of 65 bytes", atSubject, byHand(0x30, kind, space, partByHand(3, strings.Repeat("x", 65))), api.ErrLong},
		{"a name of 25 bytes", atSubject, byHand(0x30, kind, space, partByHand(3, strings.Repeat("x", 25))), api.ErrName},
		{"a subject's text", atSubject, textByHand("workload:shop/web"), api.ErrTag},
		{"no window", atWindow, []byte{0x30, 0}, api.ErrShort},
		{"a beginning alone", atWindow, byHand(0x30, first), api.ErrShort},
		{"three moments", atWindow, byHand(0x30, first, last, last), api.ErrForm},
		{"a number for a beginning", atWindow, byHand(0x30, []byte{2, 1, 5}, last), api.ErrTag},
		{"a text for an end", atWindow, byHand(0x30, first, textByHand("20000301000000Z")), api.ErrTag},
		{"a window as a set", atWindow, byHand(0x31, first, last), api.ErrTag},
		{"a moment alone", atWindow, first, api.ErrTag},
		{"a moment of no bytes", atWindow, byHand(0x30, figures(""), last), api.ErrForm},
		{"a moment without its Z", atWindow, byHand(0x30, first, figures("20000301000000")), api.ErrForm},
		{"a day that there isn't", atWindow, byHand(0x30, first, figures("20010229000000Z")), api.ErrRange},
		{"a year ahead of 1970", atWindow, byHand(0x30, figures("19691231235959Z"), last), api.ErrRange},
		{"usages of no bytes", atUsages, []byte{3, 0}, api.ErrShort},
		{"usages of bits that don't count", atUsages, []byte{3, 2, 6, 0xd0}, api.ErrForm},
		{"usages with a needless bit", atUsages, []byte{3, 2, 5, 0xc0}, api.ErrForm},
		{"usages of three bytes of bits", atUsages, []byte{3, 4, 0, 1, 1, 1}, api.ErrForm},
		{"a usage of bit 15", atUsages, []byte{3, 3, 0, 0x80, 1}, api.ErrRange},
		{"usages as a number", atUsages, []byte{2, 1, 3}, api.ErrTag},
		{"nine other names", atAlts, altsByHand("a", "b", "c", "d", "e", "f", "g", "h", "i"), api.ErrLong},
		{"nine other names, not rising", atAlts, altsByHand("a", "a", "a", "a", "a", "a", "a", "a", "a"), api.ErrLong},
		{"nine other names, the eighth one empty", atAlts, altsByHand("a", "b", "c", "d", "e", "f", "g", "", "i"), api.ErrShort},
		{"nine other names, the ninth one empty", atAlts, altsByHand("a", "b", "c", "d", "e", "f", "g", "h", ""), api.ErrLong},
		{"an empty name", atAlts, altsByHand(""), api.ErrShort},
		{"a name of 25 bytes", atAlts, altsByHand(strings.Repeat("x", 25)), api.ErrLong},
		{"a name of 25 bytes that isn't plain", atAlts, altsByHand(strings.Repeat("\n", 25)), api.ErrLong},
		{"a name that isn't plain", atAlts, altsByHand("a\x7f"), api.ErrText},
		{"a name that isn't UTF-8", atAlts, altsByHand("\xff"), api.ErrText},
		{"bytes for a name", atAlts, byHand(0x30, byHand(4, []byte("a"))), api.ErrTag},
		{"a name that isn't plain behind one that is no label", atAlts, altsByHand("Web", "\n"), api.ErrText},
		{"names as a set", atAlts, byHand(0x31, textByHand("a")), api.ErrTag},
		{"a name alone", atAlts, textByHand("a"), api.ErrTag},
	}
}

// wrongWhole is fields that can be read, and say what isn't right: it is asked behind all fields.
func wrongWhole() []wrongField {
	first, last := momentByHand(951782400), momentByHand(951868800)
	return []wrongField{
		{"an end ahead of the beginning", atWindow, byHand(0x30, last, first), api.ErrForm},
		{"a usage of bit 14", atUsages, []byte{3, 3, 1, 0x80, 2}, api.ErrForm},
		{"a usage of bit 4", atUsages, []byte{3, 2, 3, 0x88}, api.ErrForm},
		{"no usages", atUsages, []byte{3, 1, 0}, api.ErrForm},
		{"a name that is no label", atAlts, altsByHand("Web"), api.ErrForm},
		{"a name with a hyphen at its end", atAlts, altsByHand("web-"), api.ErrForm},
		{"a name twice", atAlts, altsByHand("a", "a"), api.ErrForm},
		{"names that don't rise", atAlts, altsByHand("b", "a"), api.ErrForm},
	}
}

// allWrong is all wrong fields.
func allWrong() []wrongField { return slices.Concat(wrongNumbers(), wrongOthers(), wrongWhole()) }

// P11.1: a body of which a field isn't right.
func TestWrongFields(t *testing.T) {
	for _, w := range allWrong() {
		b := with(map[int][]byte{w.at: w.b})
		if got, err := cert.Read(b); !errors.Is(err, w.err) || !zero(got) {
			t.Errorf("%s, at %d: %+v, %v, wanted %v", w.what, w.at, got, err, w.err)
		}
		holdBody(t, b)
	}
}

// P11.1: of two fields that can't be read the first one's error is the answer; what can be read comes behind them all.
func TestTwoWrongFields(t *testing.T) {
	early := append(wrongNumbers(), wrongOthers()...)
	hold := func(a, b wrongField, want error) {
		both := with(map[int][]byte{a.at: a.b, b.at: b.b})
		if got, err := cert.Read(both); !errors.Is(err, want) || !zero(got) {
			t.Fatalf("%s, at %d, and %s, at %d: %v, wanted %v", a.what, a.at, b.what, b.at, err, want)
		}
		holdBody(t, both)
	}
	for _, a := range early {
		for _, b := range early {
			if a.at < b.at {
				hold(a, b, a.err)
			}
		}
		for _, b := range wrongWhole() {
			if a.at != b.at {
				hold(a, b, a.err)
			}
		}
	}
	for _, a := range wrongWhole() {
		for _, b := range wrongWhole() {
			hold(a, b, api.ErrForm)
		}
	}
}

// P11.1: bodies that lack fields, have more, or have them in another order; End's error comes last.
func TestOtherFields(t *testing.T) {
	fields := fieldsByHand(web())
	for i := range fields {
		without := slices.Delete(slices.Clone(fields), i, i+1)
		wantErr := api.ErrTag
		if i == len(fields)-1 {
			wantErr = api.ErrShort
		}
		if got, err := cert.Read(byHand(0x30, without...)); !errors.Is(err, wantErr) || !zero(got) {
			t.Errorf("without %d: %+v, %v, wanted %v", i, got, err, wantErr)
		}
		if got, err := cert.Read(byHand(0x30, fields[:i]...)); !errors.Is(err, api.ErrShort) || !zero(got) {
			t.Errorf("the first %d: %+v, %v", i, got, err)
		}
		for j := range fields {
			holdBody(t, byHand(0x30, slices.Insert(slices.Clone(fields), i, fields[j])...))
			turned := slices.Clone(fields)
			turned[i], turned[j] = turned[j], turned[i]
			holdBody(t, byHand(0x30, turned...))
		}
	}
	whole := byHand(0x30, fields...)
	more := append(slices.Clone(fields), []byte{5, 0})
	wrongMore := append(slices.Clone(more), []byte{5, 0})
	wrongMore[atUsages] = []byte{3, 1, 0}
	for what, c := range map[string]struct {
		b   []byte
		err error
	}{
		"no bytes":                               {nil, api.ErrShort},
		"an empty list":                          {[]byte{0x30, 0}, api.ErrShort},
		"one more field":                         {byHand(0x30, more...), api.ErrForm},
		"one more, and usages that aren't right": {byHand(0x30, wrongMore...), api.ErrForm},
		"something behind it":                    {append(bytes.Clone(whole), 5, 0), api.ErrForm},
		"something behind it that is none":       {append(bytes.Clone(whole), 7), api.ErrForm},
		"twice":                                  {append(bytes.Clone(whole), whole...), api.ErrForm},
		"another tag":                            {byHand(0xa0, fields...), api.ErrTag},
		"a set, out of order":                    {byHand(0x31, fields...), api.ErrOrder},
		"bytes":                                  {byHand(4, fields...), api.ErrTag},
		"a list of it":                           {byHand(0x30, whole), api.ErrTag},
		"a tag that isn't known":                 {append([]byte{7}, whole[1:]...), api.ErrTag},
		"a length that could be shorter":         {slices.Concat([]byte{0x30, 0x82, 0}, whole[2:]), api.ErrForm},
		"its end missing":                        {whole[:len(whole)-1], api.ErrShort},
		"more bytes than may be":                 {byHand(0x30, append(slices.Clone(fields), byHand(4, make([]byte, api.MaxBytes)))...), api.ErrLong},
		"something wrong at the end, and an early field": {with(map[int][]byte{atSerial: {2, 1, 0}, atAlts: {0x30, 1, 7}}), api.ErrTag},
	} {
		if got, err := cert.Read(c.b); !errors.Is(err, c.err) || !zero(got) {
			t.Errorf("%s: %+v, %v, wanted %v", what, got, err, c.err)
		}
		holdBody(t, c.b)
	}
}

// P11.1: bodies of right certificates, changed byte by byte, cut, and with a byte put in.
func TestBodyChanged(t *testing.T) {
	its := []byte{0, 1, 2, 3, 4, 6, 10, 12, 15, 16, 17, 0x18, '-', '0', 'Z', 'a', 0x30, 0x31, 0x7f, 0x80, 0x81, 0xa0, 0xff}
	for _, c := range append(someRight(rand.New(rand.NewSource(114)), 15), web()) {
		b := bodyByHand(c)
		for i := range b {
			holdBody(t, b[:i])
			holdBody(t, b[i:])
			for _, x := range its {
				changed := bytes.Clone(b)
				changed[i] = x
				holdBody(t, changed)
				changed[i] = b[i] ^ x
				holdBody(t, changed)
				holdBody(t, slices.Insert(bytes.Clone(b), i, x))
			}
			holdBody(t, slices.Delete(bytes.Clone(b), i, i+1))
		}
	}
	b := bodyByHand(web())
	for i := range b {
		for x := range 256 {
			changed := bytes.Clone(b)
			changed[i] = byte(x)
			holdBody(t, changed)
		}
	}
}

// chance makes bodies by chance.
type chance struct {
	*rand.Rand
	right []api.Cert
	wrong []wrongField
	names []string
}

func newChance(seed int64) chance {
	r := rand.New(rand.NewSource(seed))
	return chance{r, someRight(r, 2000), allWrong(), append(labels(), noLabels()[:12]...)}
}

// body is one like a certificate's, with things amiss here and there.
func (r chance) body() []byte {
	fields := fieldsByHand(pick(r.Rand, r.right...))
	for range r.Intn(3) {
		w := pick(r.Rand, r.wrong...)
		fields[w.at] = w.b
		if r.Intn(20) == 0 {
			fields[r.Intn(len(fields))] = w.b
		}
	}
	if r.Intn(10) == 0 {
		var names []string
		for range r.Intn(11) {
			names = append(names, pick(r.Rand, r.names...))
		}
		if r.Intn(2) == 0 {
			slices.Sort(names)
		}
		fields[atAlts] = altsByHand(names...)
	}
	if r.Intn(20) == 0 {
		fields = slices.Insert(fields, r.Intn(9), pick(r.Rand, fields...))
	}
	if r.Intn(20) == 0 {
		at := r.Intn(len(fields))
		fields = slices.Delete(fields, at, at+1)
	}
	return byHand(pick(r.Rand, 0x30, 0x30, 0x30, 0x30, 0x30, 0x30, 0x30, 0x30, 0xa0), fields...)
}

// P11.1: bodies by chance, some right, most not.
func TestBodiesByChance(t *testing.T) {
	r := newChance(115)
	told := map[error]int{}
	for range 50000 {
		b := r.body()
		holdBody(t, b)
		_, err := cert.Read(b)
		told[err]++
	}
	for _, err := range []error{nil, api.ErrName, api.ErrShort, api.ErrLong, api.ErrTag, api.ErrForm, api.ErrText, api.ErrRange} {
		if told[err] < 100 {
			t.Errorf("%v was told but %d times", err, told[err])
		}
	}
}

// P11.2: unlike right certificates have unlike bodies, and each body tells the one that it is of.
func TestOneBodyEach(t *testing.T) {
	told := map[string]api.Cert{}
	hold := func(c api.Cert) {
		if !cert.Right(c) {
			return
		}
		b, err := cert.Body(c)
		if before, is := told[string(b)]; err != nil || is && !equal(before, c) {
			t.Fatalf("%+v and %+v are both %x, %v", before, c, b, err)
		}
		told[string(b)] = c
	}
	for _, change := range changes() {
		c := web()
		change.do(&c)
		hold(c)
	}
	for _, c := range someRight(rand.New(rand.NewSource(116)), 5000) {
		hold(c)
	}
	for b, c := range told {
		if got, err := cert.Read([]byte(b)); err != nil || !equal(got, c) {
			t.Fatalf("%+v: of %x %+v, %v", c, b, got, err)
		}
	}
	if len(told) < 4000 {
		t.Errorf("%d bodies", len(told))
	}
}

// FuzzRead looks for bodies of which the chapter tells something else.
func FuzzRead(f *testing.F) {
	f.Add([]byte{})
	f.Add(bodyByHand(web()))
	for _, w := range allWrong() {
		f.Add(with(map[int][]byte{w.at: w.b}))
	}
	f.Fuzz(holdBody)
}
