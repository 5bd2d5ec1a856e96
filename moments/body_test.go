package moments_test

import (
	"bytes"
	"errors"
	"fmt"
	"slices"
	"strings"
	"testing"

	"bulla/api"
	"bulla/moments"
)

// P6.1: bodies that are written out.
func TestPutExamples(t *testing.T) {
	examples := map[int]string{
		0: "19700101000000Z", 1: "19700101000001Z", 1000: "19700101001640Z", 86399: "19700101235959Z", 951782400: "20000229000000Z", 1000000000: "20010909014640Z",
		1234567890: "20090213233130Z", 2147483648: "20380119031408Z", 4107542399: "21000228235959Z", 4107542400: "21000301000000Z", 253402300799: "99991231235959Z",
	}
	for n, want := range examples {
		if got, err := moments.Put(n); err != nil || string(got) != want {
			t.Errorf("%d: %q, %v, wanted %q", n, got, err, want)
		}
		if got, err := moments.Get([]byte(want)); err != nil || got != n {
			t.Errorf("%q: %d, %v, wanted %d", want, got, err, n)
		}
	}
	if got := moments.Weekday(951782400); got != 2 {
		t.Errorf("951782400 is a Tuesday, not %d", got)
	}
}

// P6.1: what Get refuses, with the error that the chapter names first, and 0 beside it.
func TestGetErrors(t *testing.T) {
	wrong := []struct {
		what, b string
		err     error
	}{
		{"nothing", "", api.ErrForm},
		{"a Z", "Z", api.ErrForm},
		{"no Z", "20000229000000", api.ErrForm},
		{"no seconds", "200002290000Z", api.ErrForm},
		{"a figure less", "2000022900000Z", api.ErrForm},
		{"a figure more", "200002290000000Z", api.ErrForm},
		{"a year of two figures", "000229000000Z", api.ErrForm},
		{"a year of five figures", "020000229000000Z", api.ErrForm},
		{"15 figures", "200002290000000", api.ErrForm},
		{"a Z ahead", "Z20000229000000", api.ErrForm},
		{"a small z", "20000229000000z", api.ErrForm},
		{"a nought for Z", "20000229000000\x00", api.ErrForm},
		{"another letter", "20000229000000Y", api.ErrForm},
		{"a Z with the highest bit", "20000229000000\xda", api.ErrForm},
		{"a byte behind", "20000229000000Z ", api.ErrForm},
		{"a Z behind", "20000229000000ZZ", api.ErrForm},
		{"a fraction", "20000229000000.5Z", api.ErrForm},
		{"another zone", "20000229000000+0000", api.ErrForm},
		{"two of them", "20000229000000Z20000229000000Z", api.ErrForm},
		{"a blank", "2000 229000000Z", api.ErrForm},
		{"a minus", "-2000229000000Z", api.ErrForm},
		{"a plus", "+2000229000000Z", api.ErrForm},
		{"a plus in a pair", "2000+229000000Z", api.ErrForm},
		{"what stands ahead of 0", "2000022/000000Z", api.ErrForm},
		{"what stands behind 9", "2000022:000000Z", api.ErrForm},
		{"a letter", "2000022900000aZ", api.ErrForm},
		{"a figure of two bytes", "200002290000\u0660Z", api.ErrForm},
		{"no year, and a letter", "0000a229000000Z", api.ErrForm},
		{"no month, and a letter behind", "20001301000x00Z", api.ErrForm},
		{"no date, and no Z", "000000000000000", api.ErrForm},
		{"noughts", "00000000000000Z", api.ErrRange},
		{"nines", "99999999999999Z", api.ErrRange},
		{"the second ahead of the first one", "19691231235959Z", api.ErrRange},
		{"the year 0", "00000101000000Z", api.ErrRange},
		{"the year 197", "01970101000000Z", api.ErrRange},
		{"the month 0", "20000001000000Z", api.ErrRange},
		{"the month 13", "20001301000000Z", api.ErrRange},
		{"the day 0", "20000200000000Z", api.ErrRange},
		{"the 30th of February", "20000230000000Z", api.ErrRange},
		{"the 29th of February 2001", "20010229000000Z", api.ErrRange},
		{"the 29th of February 2100", "21000229000000Z", api.ErrRange},
		{"the 31st of June", "20000631000000Z", api.ErrRange},
		{"the hour 24", "20000229240000Z", api.ErrRange},
		{"the minute 60", "20000229006000Z", api.ErrRange},
		{"the second 60", "20000229000060Z", api.ErrRange},
		{"a leap second", "20161231235960Z", api.ErrRange},
	}
	for _, w := range wrong {
		if got, err := moments.Get([]byte(w.b)); !errors.Is(err, w.err) || got != 0 {
			t.Errorf("%s: %d, %v, wanted %v", w.what, got, err, w.err)
		}
	}
	if got, err := moments.Get(nil); !errors.Is(err, api.ErrForm) || got != 0 {
		t.Errorf("nil: %d, %v, wanted %v", got, err, api.ErrForm)
	}
}

// bodies is bodies of moments, and of what looks like one.
func bodies() []string {
	return []string{"19700101000000Z", "20000229000000Z", "20010228235959Z", "21000301123456Z", "99991231235959Z", "20301130202019Z", "00000000000000Z", "19691231235959Z", "20161231235960Z"}
}

// P6.1: each byte at each place, changed, put in, left out, and beside another wrong one.
func TestBodiesByteByByte(t *testing.T) {
	for _, text := range bodies() {
		body := []byte(text)
		holdBody(t, body)
		for i := range body {
			holdBody(t, body[:i])
			holdBody(t, body[i:])
			holdBody(t, slices.Delete(slices.Clone(body), i, i+1))
			for c := range 256 {
				changed := slices.Clone(body)
				changed[i] = byte(c)
				holdBody(t, changed)
				holdBody(t, slices.Insert(slices.Clone(body), i, byte(c)))
				holdBody(t, append(slices.Clone(changed), byte(c)))
				for j := range body {
					twice := slices.Clone(changed)
					twice[j] = byte(c)
					holdBody(t, twice)
				}
			}
		}
	}
}

// P6.1: all pairs of figures at each place of two, and all years.
func TestBodiesPairByPair(t *testing.T) {
	for _, text := range bodies() {
		for at := 0; at < 14; at += 2 {
			for n := range 100 {
				holdBody(t, []byte(text[:at]+fmt.Sprintf("%02d", n)+text[at+2:]))
			}
		}
		for year := range 10000 {
			holdBody(t, []byte(fmt.Sprintf("%04d", year)+text[4:]))
		}
	}
	for month := range 100 {
		for day := range 100 {
			for _, year := range []string{"1970", "2000", "2001", "2100"} {
				holdBody(t, []byte(year+fmt.Sprintf("%02d%02d", month, day)+"000000Z"))
			}
		}
	}
}

// P6.1: how many bytes there may be: of figures, of a Z in each place, and of noughts.
func TestBodiesBySize(t *testing.T) {
	for size := range 300 {
		for _, fill := range []string{"0", "1", "9", "Z", "\x00", "\xff"} {
			b := []byte(strings.Repeat(fill, size))
			holdBody(t, b)
			for i := range b {
				changed := slices.Clone(b)
				changed[i] = 'Z'
				holdBody(t, changed)
			}
		}
		holdBody(t, []byte(strings.Repeat("0", size)+"20000229000000Z"))
		holdBody(t, []byte("20000229000000Z"+strings.Repeat("0", size)))
	}
	for _, size := range []int{65535, 65536, 65537, 1 << 20} {
		if got, err := moments.Get(bytes.Repeat([]byte{'1'}, size)); !errors.Is(err, api.ErrForm) || got != 0 {
			t.Errorf("%d figures: %d, %v, wanted %v", size, got, err, api.ErrForm)
		}
	}
}

// P6.2: all days and the second ahead of each, one behind the other.
func TestBodiesRise(t *testing.T) {
	before, err := moments.Put(0)
	if err != nil {
		t.Fatal(err)
	}
	for begin := perDay; begin < last; begin += perDay {
		for _, n := range []int{begin - 1, begin} {
			body, err := moments.Put(n)
			if err != nil {
				t.Fatal(err)
			}
			if bytes.Compare(before, body) >= 0 {
				t.Fatalf("%d: %q doesn't come behind %q", n, body, before)
			}
			before = body
		}
	}
}

// P6.2: all seconds of some days, against the next one.
func TestBodiesRiseBySeconds(t *testing.T) {
	for _, begin := range []int{0, 951782400, last + 1 - 2*perDay} {
		for second := range perDay {
			holdOrder(t, begin+second, begin+second+1)
		}
	}
}

// P6.2: pairs of whatever moments, both ways about, and each against itself.
func TestOrderOfBodies(t *testing.T) {
	list := someMoments()
	for i, one := range list {
		holdOrder(t, one, one)
		for _, other := range []int{list[(i*7+1)%len(list)], list[(i*31+5)%len(list)], one + 1, one + 59, one + 3600, one + perDay, one + 30*perDay, one + 366*perDay} {
			other = min(other, last)
			holdOrder(t, one, other)
			holdOrder(t, other, one)
		}
	}
}

// The rules for every call: what is answered is the caller's, with the room behind it, and what is given isn't changed.
func TestBodiesAreNew(t *testing.T) {
	want := "20000229000000Z"
	one, _ := moments.Put(951782400)
	other, _ := moments.Put(951782400)
	for i := range one[:cap(one)] {
		one[:cap(one)][i] ^= 0x55
	}
	if again, _ := moments.Put(951782400); string(other) != want || string(again) != want {
		t.Errorf("writing over an answer changed another one: %q, %q", other, again)
	}
	room := []byte("20000229000000Z20001301000000Z2")
	kept := slices.Clone(room)
	for i := range room {
		for n := i; n <= len(room); n++ {
			moments.Get(room[i:n])
		}
	}
	if !bytes.Equal(room, kept) {
		t.Errorf("a body was changed: %q", room)
	}
}

// FuzzGet holds whatever bytes against what the chapter tells.
func FuzzGet(f *testing.F) {
	for _, text := range append(bodies(), "", "Z", "20000229000000", "20000229000000z") {
		f.Add([]byte(text))
	}
	f.Fuzz(holdBody)
}
