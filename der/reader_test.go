package der_test

import (
	"bytes"
	"errors"
	"math"
	"math/rand"
	"slices"
	"strings"
	"testing"

	"bulla/api"
	"bulla/der"
)

// reading is a call of a Reader, with its answer.
type reading struct {
	name string
	do   func(reads) any
}

// readInt and the like read with bounds that take all.
func readInt(r reads) any    { return r.Int(math.MinInt, math.MaxInt) }
func readEnum(r reads) any   { return r.Enum(math.MinInt, math.MaxInt) }
func readBool(r reads) any   { return r.Bool() }
func readOctets(r reads) any { return r.Octets(0, math.MaxInt) }
func readText(r reads) any   { return r.Text(math.MaxInt) }
func readOID(r reads) any    { return r.OID() }
func readMoment(r reads) any { return r.Moment() }
func readFlags(r reads) any  { return r.Flags() }
func readRaw(r reads) any    { return r.Raw() }

// P8.1: what one value's element is read as, and the error of each that isn't.
func TestReadExamples(t *testing.T) {
	none := []byte(nil)
	examples := []struct {
		name, text string
		do         func(reads) any
		want       any
		err        error
	}{
		{"a number", "02 01 05", readInt, 5, nil},
		{"a number below 0", "02 02 ff 7f", readInt, -129, nil},
		{"the greatest", "02 08 7f ff ff ff ff ff ff ff", readInt, math.MaxInt, nil},
		{"the least", "02 08 80 00 00 00 00 00 00 00", readInt, math.MinInt, nil},
		{"a number with its bounds", "02 01 05", func(r reads) any { return r.Int(5, 5) }, 5, nil},
		{"below the least", "02 01 05", func(r reads) any { return r.Int(6, 9) }, 0, api.ErrRange},
		{"above the most", "02 01 05", func(r reads) any { return r.Int(0, 4) }, 0, api.ErrRange},
		{"no bounds", "02 01 05", func(r reads) any { return r.Int(9, 0) }, 0, api.ErrRange},
		{"a number of no bytes", "02 00", readInt, 0, api.ErrShort},
		{"a needless byte", "02 02 00 05", func(r reads) any { return r.Int(6, 9) }, 0, api.ErrForm},
		{"a great number", "02 09 01 00 00 00 00 00 00 00 00", readInt, 0, api.ErrRange},
		{"no number", "0a 01 05", readInt, 0, api.ErrTag},
		{"a choice", "0a 01 05", readEnum, 5, nil},
		{"a choice with its bounds", "0a 01 05", func(r reads) any { return r.Enum(5, 5) }, 5, nil},
		{"a choice below", "0a 01 05", func(r reads) any { return r.Enum(6, 9) }, 0, api.ErrRange},
		{"a choice above", "0a 01 05", func(r reads) any { return r.Enum(0, 4) }, 0, api.ErrRange},
		{"a choice of no bytes", "0a 00", readEnum, 0, api.ErrShort},
		{"no choice", "02 01 05", readEnum, 0, api.ErrTag},
		{"true", "01 01 ff", readBool, true, nil},
		{"false", "01 01 00", readBool, false, nil},
		{"neither", "01 01 01", readBool, false, api.ErrForm},
		{"two truths", "01 02 ff ff", readBool, false, api.ErrForm},
		{"no truth's byte", "01 00", readBool, false, api.ErrShort},
		{"no truth", "02 01 ff", readBool, false, api.ErrTag},
		{"bytes", "04 02 07 08", readOctets, []byte{7, 8}, nil},
		{"no bytes", "04 00", readOctets, none, nil},
		{"bytes with their bounds", "04 02 07 08", func(r reads) any { return r.Octets(2, 2) }, []byte{7, 8}, nil},
		{"few bytes", "04 02 07 08", func(r reads) any { return r.Octets(3, 9) }, none, api.ErrShort},
		{"many bytes", "04 02 07 08", func(r reads) any { return r.Octets(0, 1) }, none, api.ErrLong},
		{"few and many", "04 02 07 08", func(r reads) any { return r.Octets(3, 1) }, none, api.ErrShort},
		{"bounds below 0", "04 00", func(r reads) any { return r.Octets(-2, -1) }, none, api.ErrLong},
		{"the least below 0", "04 00", func(r reads) any { return r.Octets(math.MinInt, 0) }, none, nil},
		{"no bytes' tag", "0c 01 61", readOctets, none, api.ErrTag},
		{"a text", "0c 03 77 65 62", readText, "web", nil},
		{"a text with its bound", "0c 03 77 65 62", func(r reads) any { return r.Text(3) }, "web", nil},
		{"a long text", "0c 03 77 65 62", func(r reads) any { return r.Text(2) }, "", api.ErrLong},
		{"a text of no bytes", "0c 00", readText, "", api.ErrShort},
		{"no plain text", "0c 01 0a", readText, "", api.ErrText},
		{"a long one that isn't plain", "0c 02 0a 0a", func(r reads) any { return r.Text(1) }, "", api.ErrLong},
		{"no UTF-8", "0c 01 ff", readText, "", api.ErrText},
		{"no text", "04 03 77 65 62", readText, "", api.ErrTag},
		{"an identifier", "06 03 2a 86 48", readOID, "1.2.840", nil},
		{"an identifier of no bytes", "06 00", readOID, "", api.ErrShort},
		{"an identifier without an end", "06 02 2a 86", readOID, "", api.ErrShort},
		{"a needless byte of an identifier", "06 03 2a 80 01", readOID, "", api.ErrForm},
		{"a great arc", "06 06 2a 88 80 80 80 00", readOID, "", api.ErrRange},
		{"no identifier", "04 01 2a", readOID, "", api.ErrTag},
		{"a moment", "18 0f 32 30 30 30 30 32 32 39 30 30 30 30 30 30 5a", readMoment, 951782400, nil},
		{"no Z", "18 0f 32 30 30 30 30 32 32 39 30 30 30 30 30 30 7a", readMoment, 0, api.ErrForm},
		{"no date", "18 0f 32 30 30 31 30 32 32 39 30 30 30 30 30 30 5a", readMoment, 0, api.ErrRange},
		{"a moment of no bytes", "18 00", readMoment, 0, api.ErrForm},
		{"no moment", "0c 01 61", readMoment, 0, api.ErrTag},
		{"flags", "03 02 04 90", readFlags, 9, nil},
		{"no flags", "03 01 00", readFlags, 0, nil},
		{"flags of no bytes", "03 00", readFlags, 0, api.ErrShort},
		{"a needless bit", "03 02 00 90", readFlags, 0, api.ErrForm},
		{"a flag too many", "03 03 00 00 01", readFlags, 0, api.ErrRange},
		{"no flags' tag", "04 02 04 90", readFlags, 0, api.ErrTag},
		{"a raw number", "02 01 05", readRaw, []byte{2, 1, 5}, nil},
		{"a raw list", "30 05 02 01 05 05 00", readRaw, []byte{48, 5, 2, 1, 5, 5, 0}, nil},
		{"a raw body of no value", "01 01 07", readRaw, []byte{1, 1, 7}, nil},
		{"the next tag", "02 01 05", func(r reads) any { n := r.Peek(); r.Raw(); return n }, 2, nil},
		{"the next tag's number, as often", "af 00", func(r reads) any { r.Peek(); n := r.Peek(); r.Raw(); return n }, 175, nil},
		{"more", "05 00", func(r reads) any { is := r.More() && r.More(); r.Raw(); return is }, true, nil},
		{"no more", "05 00", func(r reads) any { r.Raw(); return r.More() }, false, nil},
		{"no next tag", "05 00", func(r reads) any { r.Raw(); return r.Peek() }, 0, nil},
		{"in a list", "30 03 02 01 05", func(r reads) any { r.Enter(48); n := r.Int(0, 9); r.Leave(); return n }, 5, nil},
		{"whether it was entered", "31 00", func(r reads) any { is := r.Enter(49); r.Leave(); return is }, true, nil},
		{"whether another was entered", "31 00", func(r reads) any { return r.Enter(48) }, false, api.ErrTag},
		{"what isn't made of others", "04 00", func(r reads) any { return r.Enter(4) }, false, api.ErrTag},
		{"a tag that none is", "04 00", func(r reads) any { return r.Enter(0) }, false, api.ErrTag},
		{"behind all", "31 00", func(r reads) any { r.Raw(); return r.Enter(49) }, false, api.ErrShort},
		{"behind all, what isn't made of others", "04 00", func(r reads) any { r.Raw(); return r.Enter(4) }, false, api.ErrShort},
		{"behind all in it", "30 02 31 00", func(r reads) any { r.Enter(48); r.Enter(49); return r.Enter(49) }, false, api.ErrShort},
		{"nothing was entered", "30 00", func(r reads) any { r.Leave(); return nil }, nil, api.ErrState},
		{"nothing is entered any more", "30 00", func(r reads) any { r.Enter(48); r.Leave(); r.Leave(); return nil }, nil, api.ErrState},
		{"something is left in it", "30 02 05 00", func(r reads) any { r.Enter(48); r.Leave(); return nil }, nil, api.ErrForm},
		{"nothing left in it is more", "30 00", func(r reads) any { r.Enter(48); is := r.More(); r.Leave(); return is }, false, nil},
		{"one isn't left", "30 00", func(r reads) any { r.Enter(48); return r.Err() == nil }, true, api.ErrState},
		{"one isn't left, and has more", "30 02 05 00", func(r reads) any { r.Enter(48); return r.More() }, true, api.ErrState},
		{"something is left", "05 00", func(r reads) any { return r.Err() == nil }, true, api.ErrForm},
		{"an error of its own", "05 00", func(r reads) any { r.Fail(errOwn); return r.Err() == errOwn }, true, errOwn},
		{"no error", "05 00", func(r reads) any { r.Fail(nil); r.Raw(); return r.Err() == nil }, true, nil},
		{"the first error", "05 00", func(r reads) any { r.Fail(nil); r.Int(0, 9); r.Leave(); r.Fail(errOwn); return nil }, nil, api.ErrTag},
	}
	for _, e := range examples {
		r := der.Read(hexed(t, e.text))
		got := e.do(r)
		if err := r.End(); !sameAnswer(got, e.want) || !same(err, e.err) {
			t.Errorf("%s: %v, %v, wanted %v, %v", e.name, got, err, e.want, e.err)
		}
		holdSecond(t, e.text, e.do, e.want, e.err)
	}
}

// holdSecond holds what a value is read as where it is the second one of a list, of which something is left behind it.
func holdSecond(t *testing.T, text string, do func(reads) any, want any, wanted error) {
	t.Helper()
	one := hexed(t, text)
	b := byHand(48, slices.Concat([]byte{1, 1, 255}, one, []byte{2, 1, 77}))
	if wanted == nil && want == true || wanted == api.ErrState || wanted == api.ErrShort || one[0] == 5 || one[0] >= 48 {
		return // it asks for what is left
	}
	r := der.Read(b)
	is := r.Enter(48) && r.Bool()
	got, err := do(r), r.Err()
	if !is || !sameAnswer(got, want) || !same(err, wanted) {
		t.Errorf("%x: %v, %v, wanted %v, %v", b, got, err, want, wanted)
	}
	if wanted != nil {
		return
	}
	if n := r.Int(0, 99); n != 77 {
		t.Errorf("%x: %d behind it, %v", b, n, r.Err())
	}
	r.Leave()
	if err := r.End(); err != nil {
		t.Errorf("%x: at the end: %v", b, err)
	}
}

// P8.1: what isn't one whole element has Check's error first, whatever is asked of it.
func TestReadRefuses(t *testing.T) {
	wrong := []struct {
		text []byte
		err  error
	}{
		{nil, api.ErrShort},
		{[]byte{}, api.ErrShort},
		{[]byte{48}, api.ErrShort},
		{[]byte{7, 0}, api.ErrTag},
		{[]byte{48, 0, 48, 0}, api.ErrForm},
		{[]byte{48, 0x81, 3, 2, 1, 5}, api.ErrForm},
		{[]byte{48, 3, 2, 1}, api.ErrShort},
		{[]byte{48, 2, 2, 1}, api.ErrShort},
		{[]byte{49, 4, 5, 0, 4, 0}, api.ErrOrder},
		{octetsOf(0, 65537), api.ErrLong},
		{nested(17), api.ErrDepth},
		{append(nested(16), 0), api.ErrForm},
	}
	for _, e := range wrong {
		for _, c := range readings() {
			r := der.Read(e.text)
			if r == nil || !same(r.Err(), e.err) || !same(r.End(), e.err) {
				t.Fatalf("%x: %v, wanted %v", cut(e.text), r.Err(), e.err)
			}
			r.Fail(errOwn)
			if got := c.do(r); !isZero(got) || !same(r.Err(), e.err) || !same(r.End(), e.err) {
				t.Fatalf("%x: %s: %v, %v, wanted %v", cut(e.text), c.name, got, r.Err(), e.err)
			}
		}
	}
}

// cut is the beginning of bytes, to be told.
func cut(b []byte) []byte { return b[:min(len(b), 40)] }

// nested is so many lists in one another.
func nested(levels int) []byte {
	var b []byte
	for range levels {
		b = byHand(48, b)
	}
	return b
}

// isZero tells whether an answer is a zero value; errors aren't asked.
func isZero(got any) bool {
	switch v := got.(type) {
	case int:
		return v == 0
	case string:
		return v == ""
	case bool:
		return !v
	case []byte:
		return v == nil
	case nil, error:
		return true
	}
	return false
}

// readings is all calls of a Reader, with bounds about what is read.
func readings() []reading {
	list := []reading{
		{"a list", func(r reads) any { return r.Enter(48) }}, {"a set", func(r reads) any { return r.Enter(49) }}, {"a context", func(r reads) any { return r.Enter(160) }},
		{"no list", func(r reads) any { return r.Enter(4) }}, {"no tag", func(r reads) any { return r.Enter(-1) }}, {"tag 0", func(r reads) any { return r.Enter(0) }},
		{"leave", func(r reads) any { r.Leave(); return nil }}, {"more", func(r reads) any { return r.More() }}, {"peek", func(r reads) any { return r.Peek() }},
		{"a number", readInt}, {"a number to 9", func(r reads) any { return r.Int(0, 9) }}, {"a number from 9", func(r reads) any { return r.Int(9, 300) }},
		{"a choice", readEnum}, {"a choice to 9", func(r reads) any { return r.Enum(0, 9) }}, {"a truth", readBool},
		{"bytes", readOctets}, {"2 bytes", func(r reads) any { return r.Octets(2, 2) }}, {"1 byte", func(r reads) any { return r.Octets(0, 1) }},
		{"a text", readText}, {"a text of 2", func(r reads) any { return r.Text(2) }}, {"an identifier", readOID}, {"a moment", readMoment},
		{"flags", readFlags}, {"raw", readRaw}, {"no fail", func(r reads) any { r.Fail(nil); return nil }}, {"err", func(r reads) any { return r.Err() }},
		{"end", func(r reads) any { return r.End() }}, {"fail", func(r reads) any { r.Fail(errOwn); return nil }},
	}
	return list
}

// sources is what is read in all orders.
func sources(t *testing.T) [][]byte {
	var list [][]byte
	for _, figures := range []string{
		"02 01 05", "05 00", "30 00", "31 00", "30 03 02 01 05", "31 06 01 01 ff 02 01 05", "30 02 30 00", "30 05 30 03 02 01 05",
		"a0 07 30 00 31 03 0a 01 07", "30 09 04 02 01 02 0c 03 77 65 62", "30 06 03 02 04 90 30 00", "30 07 06 03 2a 86 48 05 00", "30 04 01 01 01 05",
	} {
		list = append(list, hexed(t, figures))
	}
	list[len(list)-1] = hexed(t, "30 05 01 01 01 05 00") // a truth that is none
	return append(list, byHand(48, byHand(24, []byte("20000229000000Z"))))
}

// P8.1: all orders of up to three of all calls, and of up to five of few, on whole elements of all kinds; all answers, Err and End behind each call.
func TestReaderOrders(t *testing.T) {
	calls := readings()
	var few []reading
	for _, c := range calls {
		if slices.Contains([]string{"a list", "a set", "leave", "more", "a number", "raw", "end", "fail"}, c.name) {
			few = append(few, c)
		}
	}
	for _, b := range sources(t) {
		holdReaderOrders(t, b, calls, 3)
		holdReaderOrders(t, b, few, 5)
	}
}

// holdReaderOrders holds all orders of so many calls.
func holdReaderOrders(t *testing.T, b []byte, calls []reading, n int) {
	t.Helper()
	for order := make([]int, n); ; {
		r, told := der.Read(b), toldRead(b)
		for k, i := range order {
			holdReading(t, r, told, calls[i], func() any { return []any{b, order[:k]} })
		}
		if !step(order, len(calls)) {
			return
		}
	}
}

// holdReading holds a call of both Readers against one another, and what Err and End tell behind it.
func holdReading(t *testing.T, r *der.Reader, told *toldReader, c reading, where func() any) {
	t.Helper()
	got, want := c.do(r), c.do(told)
	if e, isError := want.(error); isError || c.name == "err" || c.name == "end" {
		g, _ := got.(error)
		if !same(g, e) {
			t.Fatalf("%v: %s: %v, wanted %v", where(), c.name, got, want)
		}
	} else if w, isError := want.([]byte); isError && told.err != nil && w == nil && !isZero(got) || !zeroedSame(got, want, told.err) {
		t.Fatalf("%v: %s: %v, wanted %v", where(), c.name, got, want)
	}
	if !same(r.Err(), told.Err()) || !same(r.End(), told.End()) || r.More() != told.More() || r.Peek() != told.Peek() {
		t.Fatalf("%v: behind %s: %v and %v, wanted %v and %v", where(), c.name, r.Err(), r.End(), told.Err(), told.End())
	}
}

// zeroedSame tells whether an answer is what is wanted: a zero value with an error.
func zeroedSame(got, want any, err error) bool {
	if err != nil {
		return isZero(got)
	}
	return sameAnswer(got, want)
}

// P8.1: long orders of all calls on random elements: mostly such as what comes next asks for.
func TestLongReaderOrders(t *testing.T) {
	calls := readings()
	r := rand.New(rand.NewSource(88))
	for range 6000 {
		tree := grow(r, 4)
		b := tree.bytes()
		reader, told := der.Read(b), toldRead(b)
		var names []string
		for range 40 {
			c := calls[r.Intn(len(calls)-1)]
			if r.Intn(8) > 0 {
				c = fitting(told, calls)
			}
			names = append(names, c.name)
			holdReading(t, reader, told, c, func() any { return []any{b, names} })
			if told.err != nil {
				break
			}
		}
	}
}

// fitting is the call that reads what comes next.
func fitting(told *toldReader, calls []reading) reading {
	name := map[int]string{
		0: "leave", 1: "a truth", 2: "a number", 3: "flags", 4: "bytes", 5: "raw", 6: "an identifier", 10: "a choice", 12: "a text", 24: "a moment", 48: "a list", 49: "a set", 160: "a context",
	}[told.Peek()]
	if name == "" {
		name = "raw"
	}
	return calls[slices.IndexFunc(calls, func(c reading) bool { return c.name == name })]
}

// The rules for every call: End and Err change nothing, so what is asked ahead of the end is read on behind it.
func TestEndChangesNothing(t *testing.T) {
	r := der.Read(hexed(t, "30 03 02 01 05"))
	end := func(want error) {
		t.Helper()
		for range 3 {
			if err := r.End(); !same(err, want) || r.Err() != nil {
				t.Fatalf("%v, %v, wanted %v", err, r.Err(), want)
			}
		}
	}
	end(api.ErrForm)
	r.Enter(48)
	end(api.ErrState)
	if n := r.Int(0, 9); n != 5 {
		t.Fatalf("%d, %v", n, r.Err())
	}
	end(api.ErrState)
	r.Leave()
	end(nil)
}

// P8.1: behind each kind of first error all calls answer zero values, do nothing, and the error stays.
func TestReaderStaysFailed(t *testing.T) {
	b := hexed(t, "30 0a 02 01 05 31 00 04 03 07 08 09")
	for _, wrong := range []reading{
		{"another tag", readBool}, {"another list", func(r reads) any { return r.Enter(49) }}, {"out of its range", func(r reads) any { r.Enter(48); return r.Int(6, 7) }},
		{"leave", func(r reads) any { r.Leave(); return nil }}, {"more in it", func(r reads) any { r.Enter(48); r.Leave(); return nil }},
		{"none", func(r reads) any { r.Raw(); return r.Raw() }}, {"fail", func(r reads) any { r.Fail(errOwn); return nil }},
		{"long", func(r reads) any { r.Enter(48); r.Raw(); r.Raw(); return r.Octets(0, 2) }}, {"short", func(r reads) any { r.Enter(48); r.Raw(); r.Raw(); return r.Octets(4, 9) }},
	} {
		r := der.Read(b)
		if got := wrong.do(r); !isZero(got) {
			t.Errorf("%s: %v", wrong.name, got)
		}
		first := r.Err()
		if first == nil {
			t.Fatalf("%s: no error", wrong.name)
		}
		for _, c := range readings() {
			if got := c.do(r); !isZero(got) || !same(r.Err(), first) || !same(r.End(), first) {
				t.Errorf("%s, and then %s: %v, %v, wanted %v", wrong.name, c.name, got, r.Err(), first)
			}
		}
	}
}

// P8.1: each tag is read by its own call alone; by the others it's ErrTag, also where the body is wrong.
func TestEachTagHasItsCall(t *testing.T) {
	byTag := map[int]func(reads) any{1: readBool, 2: readInt, 3: readFlags, 4: readOctets, 6: readOID, 10: readEnum, 12: readText, 24: readMoment}
	bodies := map[int]string{1: "ff", 2: "05", 3: "07 80", 4: "01", 5: "", 6: "2a", 10: "05", 12: "61", 24: "32 30 30 30 30 32 32 39 30 30 30 30 30 30 5a", 48: "", 49: ""}
	for n := range 16 {
		bodies[160+n] = ""
	}
	for tag, body := range bodies {
		for other, do := range byTag {
			r := der.Read(byHand(tag, hexed(t, body)))
			got := do(r)
			if other == tag && (r.End() != nil || isZero(got)) || other != tag && (!errors.Is(r.Err(), api.ErrTag) || !isZero(got)) {
				t.Errorf("%d by %d: %v, %v", tag, other, got, r.Err())
			}
		}
		for _, other := range []int{48, 49, 160, 167, 175, tag} {
			r := der.Read(byHand(tag, hexed(t, body)))
			is := r.Enter(other)
			if want := other == tag && isMade(tag); is != want || want && r.Err() != nil || !want && !errors.Is(r.Err(), api.ErrTag) {
				t.Errorf("%d entered by %d: %v, %v", tag, other, is, r.Err())
			}
		}
		r := der.Read(byHand(tag, hexed(t, body)))
		if got := r.Raw(); !bytes.Equal(got, byHand(tag, hexed(t, body))) || r.End() != nil {
			t.Errorf("%d raw: %x, %v", tag, got, r.End())
		}
	}
}

// P8.1: lists are entered up to the last level, and left again.
func TestEnterDeep(t *testing.T) {
	r := der.Read(nested(16))
	for level := range 16 {
		if !r.Enter(48) {
			t.Fatalf("level %d: %v", level, r.Err())
		}
	}
	if r.More() || r.Peek() != 0 {
		t.Fatal("something is left innermost")
	}
	for range 16 {
		r.Leave()
	}
	if err := r.End(); err != nil {
		t.Fatal(err)
	}
}

// P8.1: great elements are read in full, and many small ones, one behind the other.
func TestReadGreat(t *testing.T) {
	long := octetsOf(9, 65530)
	r := der.Read(byHand(4, long))
	if got := r.Octets(65530, 65530); !bytes.Equal(got, long) || r.End() != nil {
		t.Errorf("%d bytes, %v", len(got), r.End())
	}
	r = der.Read(byHand(4, long))
	if got := r.Raw(); !bytes.Equal(got, byHand(4, long)) || r.End() != nil {
		t.Errorf("%d raw bytes, %v", len(got), r.End())
	}
	r = der.Read(byHand(48, bytes.Repeat([]byte{5, 0}, 32765)))
	r.Enter(48)
	count := 0
	for r.More() {
		r.Raw()
		count++
	}
	r.Leave()
	if r.End() != nil || count != 32765 {
		t.Errorf("%d elements, %v", count, r.End())
	}
}

// A Reader that Read hasn't made has nothing to read.
func TestZeroReader(t *testing.T) {
	for _, c := range readings() {
		var r der.Reader
		if got := c.do(&r); !isZero(got) {
			t.Errorf("%s: %v", c.name, got)
		}
	}
	var r der.Reader
	if r.More() || r.Err() != nil || r.End() != nil {
		t.Errorf("%v, %v, %v", r.More(), r.Err(), r.End())
	}
}

// The rules for every call: what is given isn't changed nor kept, and what is answered is the caller's, with the room behind it.
func TestReaderKeepsNothing(t *testing.T) {
	room := append(hexed(t, "30 0c 04 02 07 08 31 02 05 00 04 02 07 08"), 4, 1, 1)
	kept := slices.Clone(room)
	b := room[:14]
	r := der.Read(b)
	if !bytes.Equal(room, kept) {
		t.Fatalf("what was given was changed: %x", room)
	}
	for i := range room {
		room[i] ^= 0x55
	}
	r.Enter(48)
	for _, want := range [][]byte{{7, 8}, {49, 2, 5, 0}, {7, 8}} {
		var got []byte
		if r.Peek() == 4 {
			got = r.Octets(2, 2)
		} else {
			got = r.Raw()
		}
		if !bytes.Equal(got, want) {
			t.Fatalf("%x, %v, wanted %x", got, r.Err(), want)
		}
		for i := range got[:cap(got)] {
			got[:cap(got)][i] ^= 0x55
		}
	}
	r.Leave()
	if err := r.End(); err != nil {
		t.Fatal(err)
	}
	for i := range room {
		room[i] ^= 0x55
	}
	if !bytes.Equal(room, kept) {
		t.Fatalf("what was given was changed: %x", room)
	}
}

// The rules for every call: two Readers of the same bytes are apart.
func TestReadersAreApart(t *testing.T) {
	b := hexed(t, "30 04 04 02 07 08")
	one, other := der.Read(b), der.Read(b)
	one.Enter(48)
	first := one.Octets(0, 9)
	first[0] = 0
	one.Fail(errOwn)
	if !other.Enter(48) || !bytes.Equal(other.Octets(0, 9), []byte{7, 8}) || other.Err() != nil {
		t.Errorf("%v", other.Err())
	}
}

// FuzzRead holds whatever calls on whatever bytes against what the chapter tells.
func FuzzRead(f *testing.F) {
	f.Add([]byte("\x30\x03\x02\x01\x05"), []byte{0, 9, 6})
	f.Add([]byte("\x31\x06\x01\x01\xff\x02\x01\x05"), []byte{1, 14, 9, 6, 26})
	f.Add([]byte("\x30\x09\x04\x02\x01\x02\x0c\x03web"), []byte{0, 15, 18, 6})
	f.Add([]byte(strings.Repeat("\x30", 9)), []byte{23})
	f.Fuzz(func(t *testing.T, b, order []byte) {
		calls := readings()
		r, told := der.Read(b), toldRead(b)
		if !same(r.Err(), told.Err()) || !same(r.End(), told.End()) {
			t.Fatalf("%x: %v, wanted %v", b, r.Err(), told.Err())
		}
		for _, i := range order {
			holdReading(t, r, told, calls[int(i)%len(calls)], func() any { return []any{b, order} })
		}
	})
}
