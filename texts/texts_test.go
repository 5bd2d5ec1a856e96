package texts_test

import (
	"bytes"
	"errors"
	"math"
	"math/rand"
	"slices"
	"strings"
	"testing"

	"bulla/api"
	"bulla/texts"
)

// P7.1: texts that are written out: plain ones, and such that aren't.
func TestPlainExamples(t *testing.T) {
	plain := []string{
		"", " ", "~", "a", "A", "0", "-", "web", "workload:shop/web", "!\"#$%&'()*+,-./", "[\\]^_`{|}~", "   ",
		"\u0080", "\u0085", "\u009f", "\u00a0", "\u00ad", "\u00e9", "e\u0301", "\u07ff", "\u0800", "\u2028", "\u200b", "\u202e", "\ud7ff", "\ue000", "\ufdd0", "\ufeff",
		"\ufffd", "a\ufffdb", "\ufffe", "\uffff", "\U00010000", "\U0001f512", "\U000e0001", "\U0010ffff", "\u65e5\u672c", "\u0660",
	}
	for _, s := range plain {
		if !texts.Plain(s) {
			t.Errorf("%q isn't plain", s)
		}
	}
	wrong := []string{
		"\x00", "\x01", "\t", "\n", "\r", "\x1b", "\x1f", "\x7f", "a\x00", "\x00a", "a\nb", "a\x7f", "\x7fa", "\u00e9\x1f", "\u00e9\x7f\u00e9",
		"\x80", "\xbf", "\xc0", "\xc1", "\xc2", "\xe0", "\xed", "\xef", "\xf0", "\xf4", "\xf5", "\xff", "a\xff", "\xffa", "a\x80b", "\ufffd\xff",
		"\xc0\x80", "\xc0\xa0", "\xc1\x81", "\xc1\xbf", "\xe0\x80\xa0", "\xe0\x9f\xbf", "\xf0\x80\x80\xa0", "\xf0\x8f\xbf\xbf", "\xf8\x88\x80\x80\x80",
		"\xed\xa0\x80", "\xed\xaf\xbf", "\xed\xb0\x80", "\xed\xbf\xbf", "\xed\xa0\xbd\xed\xb4\x92", "\xf4\x90\x80\x80", "\xf5\x80\x80\x80", "\xf7\xbf\xbf\xbf",
		"\xc3", "a\xc3", "\xc3a", "\xc3\xc3", "\xe2\x82", "\xe2\x82a", "\xf0\x9f\x94", "\xf0\x9f\x94a", "\xef\xbf", "\xef\xbf\xbd\xbd", "\xc3\xa9\xa9", "\xe2\x28\xa1", "\xfe\xff",
	}
	for _, s := range wrong {
		if texts.Plain(s) {
			t.Errorf("%q is plain", s)
		}
	}
}

// P7.1: each rune, alone, behind and ahead of others; and each, written in more bytes than it needs.
func TestRunes(t *testing.T) {
	for r := range 0x110000 + 0x400 {
		s := string(runeByHand(r, sizeByHand(r)))
		want := isRune(r) && r >= 32 && r != 127
		if texts.Plain(s) != want || texts.Plain("a"+s) != want || texts.Plain(s+"a") != want {
			t.Fatalf("U+%04X is plain: %v, wanted %v", r, !want, want)
		}
		if texts.Plain("\n"+s) || texts.Plain(s+"\x7f") || texts.Plain(s[:len(s)-1]+"\x1f") {
			t.Fatalf("U+%04X beside a rune that isn't plain is plain", r)
		}
		if len(s) > 1 && (texts.Plain(s[:len(s)-1]) || texts.Plain(s[1:]) || texts.Plain(s[:len(s)-1]+" ")) {
			t.Fatalf("a piece of U+%04X is plain", r)
		}
		if want := r < 128 && rightLabel.MatchString(s); texts.Label(s) != want || texts.Label("a"+s+"a") != (want || s == "-") {
			t.Fatalf("U+%04X is a label: %v, wanted %v", r, !want, want)
		}
		for size := sizeByHand(r) + 1; size <= 6; size++ {
			if long := string(runeByHand(r, size)); texts.Plain(long) {
				t.Fatalf("U+%04X in %d bytes is plain", r, size)
			}
		}
	}
}

// P7.1: all texts of up to two bytes, and longer ones of bytes at which something changes.
func TestAllTexts(t *testing.T) {
	for n := range 3 {
		each(n, allBytes(), func(b []byte) { holdText(t, string(b)) })
	}
	each(3, edgeBytes(), func(b []byte) { holdText(t, string(b)) })
	each(4, edgeBytes(), func(b []byte) {
		if s := string(b); texts.Plain(s) != wantPlain(s) {
			t.Fatalf("%q is plain: %v, wanted %v", s, texts.Plain(s), wantPlain(s))
		}
	})
	for n := range 7 {
		each(n, []byte("az-9A"), func(b []byte) { holdText(t, string(b)) })
	}
	for n := range 5 {
		each(n, []byte("az09-_`{/:.\xc3"), func(b []byte) { holdText(t, string(b)) })
	}
}

// P7.1: labels that are written out, and what is none.
func TestLabelExamples(t *testing.T) {
	labels := []string{
		"a", "z", "0", "9", "m", "5", "ab", "a0", "0a", "00", "web", "shop", "node-1", "a-b", "a--b", "1-2", "a-0", "0-z", "a-b-c-d", "a---------b",
		"abcdefghijklmnopqrstuvwx", "yz0123456789", strings.Repeat("a", 23), strings.Repeat("0", 24), "a" + strings.Repeat("-", 22) + "z",
	}
	for _, s := range labels {
		if !texts.Label(s) {
			t.Errorf("%q is no label", s)
		}
	}
	wrong := []string{
		"", "-", "--", "-a", "a-", "-a-", "a--", "--a", "-0", "0-", "A", "Z", "aB", "Ab", "web ", " web", "we b", "web\n", "\nweb", "web\x00", "\x00web", "a.b", "a_b", "a/b", "a:b", "a`b", "a{b", "a@b",
		"\u00e9", "a\u00e9b", "\u0660", "\uff41", "\u212a", "\u017f", "a\u2010b", "a\u00adb", "\u0430", "\xff", "a\xff", "\xffa", "a\x80b", "\ufffd",
		strings.Repeat("a", 25), strings.Repeat("0", 25), strings.Repeat("a", 26), strings.Repeat("a", 256+5), strings.Repeat("a", 65536), "a" + strings.Repeat("-", 23) + "z",
		"a" + strings.Repeat("-", 23), "-" + strings.Repeat("a", 23), strings.Repeat("a", 23) + "\u00e9", strings.Repeat("-", 24), "abcdefghijklmnopqrstuvwX",
	}
	for _, s := range wrong {
		if texts.Label(s) {
			t.Errorf("%.60q is a label", s)
		}
	}
}

// P7.1: labels of each size, with each byte at each place.
func TestLabelsByteByByte(t *testing.T) {
	for size := range 30 {
		for _, fill := range []string{"a", "z", "0", "9", "m-5"} {
			b := []byte(strings.Repeat(fill, size)[:size])
			holdText(t, string(b))
			for i := range b {
				for c := range 256 {
					changed := slices.Clone(b)
					changed[i] = byte(c)
					holdText(t, string(changed))
				}
			}
		}
	}
}

// P7.1: bodies that are written out.
func TestPutExamples(t *testing.T) {
	for _, s := range []string{"a", " ", "web", "x\u00e9", "\u65e5\u672c", "\U0001f512", "\ufffd", "\u0080", strings.Repeat("a", 64), strings.Repeat("\u00e9", 32)} {
		for _, most := range []int{len(s), len(s) + 1, 64, 65, 65536, math.MaxInt} {
			if got, err := texts.Put(s, most); err != nil || string(got) != s {
				t.Errorf("%q, at most %d: %x, %v", s, most, got, err)
			}
			if got, err := texts.Get([]byte(s), most); err != nil || got != s {
				t.Errorf("%q, at most %d, read as %q, %v", s, most, got, err)
			}
		}
	}
}

// P7.1: what Put and Get refuse, with the error that the chapter names first, and nothing beside it.
func TestTextErrors(t *testing.T) {
	wrong := []struct {
		what, s string
		most    int
		err     error
	}{
		{"no bytes", "", 64, api.ErrShort},
		{"no bytes, and no room", "", 0, api.ErrShort},
		{"no bytes, and less than no room", "", -1, api.ErrShort},
		{"no bytes, and the least bound", "", math.MinInt, api.ErrShort},
		{"no bytes, and the greatest bound", "", math.MaxInt, api.ErrShort},
		{"a byte, and no room", "a", 0, api.ErrLong},
		{"a byte, and less than no room", "a", -1, api.ErrLong},
		{"a byte, and the least bound", "a", math.MinInt, api.ErrLong},
		{"a byte more", "abc", 2, api.ErrLong},
		{"65 bytes", strings.Repeat("a", 65), 64, api.ErrLong},
		{"two runes in three bytes", "a\u00e9", 2, api.ErrLong},
		{"a rune of four bytes", "\U0001f512", 3, api.ErrLong},
		{"too long, and not plain", "a\n", 1, api.ErrLong},
		{"too long, and no UTF-8", "\xff\xff", 1, api.ErrLong},
		{"too long, and not plain within what may be", "\na", 1, api.ErrLong},
		{"a nought, and no room", "\x00", 0, api.ErrLong},
		{"a nought", "\x00", 1, api.ErrText},
		{"a line's end", "web\n", 4, api.ErrText},
		{"a tab", "a\tb", 64, api.ErrText},
		{"what stands ahead of a blank", "\x1f", 64, api.ErrText},
		{"what stands behind a tilde", "\x7f", 64, api.ErrText},
		{"no UTF-8", "\xff", 64, api.ErrText},
		{"a piece of a rune", "\u00e9"[:1], 64, api.ErrText},
		{"half of a pair", "\xed\xa0\x80", 64, api.ErrText},
		{"a rune of too many bytes", "\xc1\x81", 64, api.ErrText},
		{"a rune above the last one", "\xf4\x90\x80\x80", math.MaxInt, api.ErrText},
	}
	for _, w := range wrong {
		if got, err := texts.Put(w.s, w.most); !errors.Is(err, w.err) || got != nil {
			t.Errorf("%s: %x, %v, wanted %v", w.what, got, err, w.err)
		}
		if got, err := texts.Get([]byte(w.s), w.most); !errors.Is(err, w.err) || got != "" {
			t.Errorf("%s: read as %q, %v, wanted %v", w.what, got, err, w.err)
		}
	}
	for _, most := range []int{math.MinInt, -1, 0, 1, math.MaxInt} {
		if got, err := texts.Get(nil, most); !errors.Is(err, api.ErrShort) || got != "" {
			t.Errorf("nil, at most %d: %q, %v, wanted %v", most, got, err, api.ErrShort)
		}
	}
}

// P7.1: each size about each bound, of runes of each size, also such as aren't plain.
func TestTextsBySize(t *testing.T) {
	bounds := []int{math.MinInt, -1 << 32, -256, -1, 0, 1, 2, 3, 4, 5, 23, 24, 25, 63, 64, 65, 127, 128, 255, 256, 257, 1 << 32, math.MaxInt}
	for size := range 300 {
		for _, fill := range []string{"a", "\u00e9", "\u65e5", "\U0001f512", "\n", "\xff", "\ufffd"} {
			s := strings.Repeat(fill, size)
			holdText(t, s)
			for _, most := range bounds {
				holdBody(t, s, most)
				holdBody(t, s+"\x7f", most)
			}
		}
	}
	for _, size := range []int{65529, 65530, 65531, 65535, 65536, 65537, 1 << 20} {
		for _, most := range []int{size - 1, size, math.MaxInt} {
			holdBody(t, strings.Repeat("a", size), most)
			holdBody(t, strings.Repeat("a", size-1)+"\x00", most)
		}
	}
}

// P7.1: whatever bytes, and whatever runes.
func TestManyTexts(t *testing.T) {
	r := rand.New(rand.NewSource(7))
	for range 100000 {
		b := make([]byte, r.Intn(30))
		for i := range b {
			b[i] = edgeBytes()[r.Intn(len(edgeBytes()))]
		}
		holdText(t, string(b))
		var s strings.Builder
		for range r.Intn(8) {
			s.WriteRune(rune(r.Intn(0x110000) >> r.Intn(16)))
		}
		holdText(t, s.String())
		if cut := r.Intn(s.Len() + 1); cut > 0 {
			holdText(t, s.String()[:cut])
			holdText(t, s.String()[cut:])
		}
	}
}

// The rules for every call: what is answered is the caller's, with the room behind it, and what is given isn't changed.
func TestTextsAreNew(t *testing.T) {
	one, _ := texts.Put("workload", 64)
	other, _ := texts.Put("workload", 64)
	for i := range one[:cap(one)] {
		one[:cap(one)][i] ^= 0x55
	}
	if again, _ := texts.Put("workload", 64); string(other) != "workload" || string(again) != "workload" {
		t.Errorf("writing over an answer changed another one: %q, %q", other, again)
	}
	room := []byte("work\u00e9load\n\xff web")
	kept := slices.Clone(room)
	for i := range room {
		for n := i; n <= len(room); n++ {
			texts.Get(room[i:n], 8)
		}
	}
	if !bytes.Equal(room, kept) {
		t.Errorf("a body was changed: %q", room)
	}
	got, err := texts.Get(room[:4], 64)
	room[0] = 'x'
	if err != nil || got != "work" {
		t.Errorf("writing over what was given changed the answer: %q, %v", got, err)
	}
}

// FuzzText holds whatever text and bound against what the chapter tells.
func FuzzText(f *testing.F) {
	for _, s := range []string{"", "a", "web-1", "-a", "\n", "\x7f", "\u00e9", "\ufffd", "\xff", "\xed\xa0\x80", "\xf4\x90\x80\x80", strings.Repeat("a", 24), strings.Repeat("a", 65)} {
		f.Add(s, 24)
	}
	f.Fuzz(func(t *testing.T, s string, most int) {
		holdText(t, s)
		holdBody(t, s, most)
	})
}
