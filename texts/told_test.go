package texts_test

import (
	"bytes"
	"encoding/hex"
	"errors"
	"math"
	"regexp"
	"slices"
	"strings"
	"testing"

	"bulla/api"
	"bulla/texts"
)

// bin is the bytes of figures with blanks between.
func bin(t testing.TB, figures string) []byte {
	t.Helper()
	b, err := hex.DecodeString(strings.ReplaceAll(figures, " ", ""))
	if err != nil {
		t.Fatal(err)
	}
	return b
}

// start is the first bytes of many.
func start(b []byte) []byte { return b[:min(len(b), 24)] }

// each gives all texts of so many bytes of an alphabet.
func each(n int, alphabet []byte, do func(b []byte)) {
	b := make([]byte, n)
	var fill func(i int)
	fill = func(i int) {
		if i == n {
			do(b)
			return
		}
		for _, c := range alphabet {
			b[i] = c
			fill(i + 1)
		}
	}
	fill(0)
}

// allBytes is each byte.
func allBytes() []byte {
	b := make([]byte, 256)
	for i := range b {
		b[i] = byte(i)
	}
	return b
}

// edgeBytes is the bytes at which something changes in UTF-8, and those beside them.
func edgeBytes() []byte {
	return []byte{
		0x00, 0x1f, 0x20, 0x41, 0x7e, 0x7f, 0x80, 0x81, 0x8f, 0x90, 0x9f, 0xa0, 0xbd, 0xbf, 0xc0, 0xc1, 0xc2, 0xdf,
		0xe0, 0xe1, 0xec, 0xed, 0xee, 0xef, 0xf0, 0xf1, 0xf3, 0xf4, 0xf5, 0xf7, 0xf8, 0xff,
	}
}

// runeByHand is a rune's bytes in UTF-8, of so many bytes (also more of them than it needs).
func runeByHand(r, size int) []byte {
	b := make([]byte, size)
	for i := size - 1; i > 0; i-- {
		b[i] = byte(0x80 + r%64)
		r /= 64
	}
	b[0] = []byte{0, 0, 0xc0, 0xe0, 0xf0, 0xf8, 0xfc}[size] + byte(r)
	return b
}

// sizeByHand is how many bytes a rune has in UTF-8.
func sizeByHand(r int) int {
	switch {
	case r <= 0x7f:
		return 1
	case r <= 0x7ff:
		return 2
	case r <= 0xffff:
		return 3
	}
	return 4
}

// isRune tells whether a number is a rune of UTF-8, as its standard does.
func isRune(r int) bool {
	return r >= 0 && r <= 0x10ffff && (r < 0xd800 || r > 0xdfff)
}

// wantPlain is Plain as the chapter tells it: rune by rune, each written again.
func wantPlain(s string) bool {
	for len(s) > 0 {
		r, size := int(s[0]), 1
		switch {
		case s[0] >= 0xf0:
			r, size = r-0xf0, 4
		case s[0] >= 0xe0:
			r, size = r-0xe0, 3
		case s[0] >= 0xc0:
			r, size = r-0xc0, 2
		case s[0] >= 0x80:
			return false
		}
		if len(s) < size {
			return false
		}
		for _, c := range []byte(s[1:size]) {
			r = 64*r + int(c%64)
		}
		if !isRune(r) || sizeByHand(r) != size || string(runeByHand(r, size)) != s[:size] || r < 32 || r == 127 {
			return false
		}
		s = s[size:]
	}
	return true
}

// rightLabel is what a label is.
var rightLabel = regexp.MustCompile(`\A[a-z0-9]([a-z0-9-]{0,22}[a-z0-9])?\z`)

// wantText is whether a text has a body, as the chapter tells it.
func wantText(s string, most int) error {
	if s == "" {
		return api.ErrShort
	}
	if len(s) > most {
		return api.ErrLong
	}
	if !wantPlain(s) {
		return api.ErrText
	}
	return nil
}

// holdText holds all calls that take a text against what the chapter tells, with bounds about its size.
func holdText(t *testing.T, s string) {
	t.Helper()
	if got, want := texts.Plain(s), wantPlain(s); got != want {
		t.Fatalf("%.60q is plain: %v, wanted %v", s, got, want)
	}
	if got, want := texts.Label(s), rightLabel.MatchString(s); got != want {
		t.Fatalf("%.60q is a label: %v, wanted %v", s, got, want)
	}
	for _, most := range []int{len(s) - 1, len(s), len(s) + 1} {
		holdBody(t, s, most)
	}
}

// holdBody holds Put and Get, with a bound, against what the chapter tells.
func holdBody(t *testing.T, s string, most int) {
	t.Helper()
	wantErr := wantText(s, most)
	want := s
	if wantErr != nil {
		want = ""
	}
	body, err := texts.Put(s, most)
	if !errors.Is(err, wantErr) || string(body) != want || (body == nil) != (wantErr != nil) {
		t.Fatalf("%.60q, at most %d: %x, %v, wanted %v", s, most, start(body), err, wantErr)
	}
	got, err := texts.Get([]byte(s), most)
	if !errors.Is(err, wantErr) || got != want {
		t.Fatalf("%x, at most %d: %.60q, %v, wanted %v", start([]byte(s)), most, got, err, wantErr)
	}
}

// flagsByHand is a mask's body: figures 0 and 1, the one of 2^0 first, up to the last 1, filled up to whole bytes.
func flagsByHand(mask int) []byte {
	figures := ""
	for n := range 15 {
		figures += string(rune('0' + mask>>n&1))
	}
	figures = strings.TrimRight(figures, "0")
	body := []byte{0}
	for ; figures != ""; figures = figures[min(8, len(figures)):] {
		c := byte(0)
		for i := range 8 {
			c *= 2
			if i < len(figures) && figures[i] == '1' {
				c++
			}
		}
		body[0] = byte(8 - min(8, len(figures)))
		body = append(body, c)
	}
	return body
}

// bitsOf is the bits that count of a bits' body, as true and false; and whether it is one.
func bitsOf(b []byte) ([]bool, bool) {
	if b[0] > 7 || len(b) == 1 && b[0] != 0 {
		return nil, false
	}
	var list []bool
	for _, c := range b[1:] {
		for _, value := range []byte{128, 64, 32, 16, 8, 4, 2, 1} {
			list = append(list, c >= value)
			c %= value
		}
	}
	count := len(list) - int(b[0])
	return list[:count], !slices.Contains(list[count:], true)
}

// wantMask is Mask as the chapter tells it, sentence by sentence.
func wantMask(b []byte) (int, error) {
	if len(b) == 0 {
		return 0, api.ErrShort
	}
	if len(b) > 3 { // asked ahead, as bits are gone through one by one
		return 0, api.ErrForm
	}
	list, is := bitsOf(b)
	if !is || len(list) > 0 && !list[len(list)-1] {
		return 0, api.ErrForm
	}
	mask := 0
	for n, is := range list {
		if is && n == 15 {
			return 0, api.ErrRange
		}
		if is {
			mask += 1 << n
		}
	}
	return mask, nil
}

// holdMask holds Mask against what the chapter tells; what has a mask is that mask's body.
func holdMask(t *testing.T, b []byte) {
	t.Helper()
	got, err := texts.Mask(b)
	want, wantErr := wantMask(b)
	if !errors.Is(err, wantErr) || got != want {
		t.Fatalf("%x..: %d, %v, wanted %d, %v", start(b), got, err, want, wantErr)
	}
	if err != nil {
		return
	}
	if again, err := texts.Flags(got); err != nil || !bytes.Equal(again, b) {
		t.Fatalf("%x is %d, whose body is %x, %v", b, got, again, err)
	}
}

// ahead tells whether bytes stand ahead of others, as the chapter's words do.
func ahead(a, b []byte) bool {
	for i := range a {
		if i == len(b) {
			return false
		}
		if a[i] != b[i] {
			return a[i] < b[i]
		}
	}
	return len(a) < len(b)
}

// wantSet is Set as the chapter tells it: always one that none stands ahead of comes next.
func wantSet(elements [][]byte) []byte {
	var body []byte
	left := slices.Clone(elements)
	for len(left) > 0 {
		first := 0
		for i := range left {
			if ahead(left[i], left[first]) {
				first = i
			}
		}
		body = append(body, left[first]...)
		left = slices.Delete(left, first, first+1)
	}
	return body
}

// wantSorted is Sorted as the chapter tells it.
func wantSorted(elements [][]byte) bool {
	for i := range elements {
		if i > 0 && ahead(elements[i], elements[i-1]) {
			return false
		}
	}
	return true
}

// holdSet holds Set and Sorted against what the chapter tells.
func holdSet(t *testing.T, elements [][]byte) {
	t.Helper()
	if got, want := texts.Set(elements), wantSet(elements); !bytes.Equal(got, want) {
		t.Fatalf("%x: %x.., wanted %x..", elements[:min(len(elements), 8)], start(got), start(want))
	}
	if got, want := texts.Sorted(elements), wantSorted(elements); got != want {
		t.Fatalf("%x stand in order: %v, wanted %v", elements[:min(len(elements), 8)], got, want)
	}
}

// orders gives all orders of a list.
func orders(list [][]byte, do func(list [][]byte)) {
	var swap func(n int)
	swap = func(n int) {
		if n == len(list) {
			do(list)
			return
		}
		for i := n; i < len(list); i++ {
			list[n], list[i] = list[i], list[n]
			swap(n + 1)
			list[n], list[i] = list[i], list[n]
		}
	}
	swap(0)
}

// noMasks is numbers that are none.
func noMasks() []int {
	list := []int{math.MinInt, math.MinInt + 1, math.MaxInt, math.MaxInt - 1}
	for power := range 15 {
		list = append(list, -(1 << power), -(1<<power)-1)
	}
	for power := 15; power < 63; power++ {
		for _, near := range []int{0, 1, 2, 256, 32767} {
			list = append(list, 1<<power+near, -(1 << power), near-1<<power-32768)
		}
	}
	return list
}
