package mac_test

import (
	"bytes"
	"encoding/binary"
	"encoding/hex"
	"errors"
	"strings"
	"testing"

	"bulla/api"
	"bulla/mac"
)

// byHand is a framed text, as the chapter tells it.
func byHand(word string, parts ...[]byte) []byte {
	b := append([]byte{byte(len(word))}, word...)
	b = append(b, byte(len(parts)))
	for _, p := range parts {
		b = binary.BigEndian.AppendUint32(b, uint32(len(p)))
		b = append(b, p...)
	}
	return b
}

// opened is the word and the parts of a framed text: as there is but one answer, what is unlike has unlike framed texts.
func opened(t *testing.T, b []byte) (string, [][]byte) {
	t.Helper()
	take := func(n int) []byte {
		if n > len(b) {
			t.Fatalf("%d bytes are missing", n-len(b))
		}
		front := b[:n]
		b = b[n:]
		return front
	}
	word := string(take(int(take(1)[0])))
	parts := make([][]byte, take(1)[0])
	for i := range parts {
		parts[i] = take(int(binary.BigEndian.Uint32(take(4))))
	}
	if len(b) > 0 {
		t.Fatalf("%d bytes are too many", len(b))
	}
	return word, parts
}

// many is n parts of one byte each.
func many(n int) [][]byte {
	parts := make([][]byte, n)
	for i := range parts {
		parts[i] = []byte{byte(i)}
	}
	return parts
}

type refused struct {
	what, word string
	parts      [][]byte
	err        error
}

// wrong is what Frame refuses.
func wrong() []refused {
	long := strings.Repeat("a", 33)
	over := make([]byte, api.MaxBytes+1)
	return []refused{
		{"no word", "", nil, api.ErrText},
		{"a word of 33 bytes", long, nil, api.ErrText},
		{"a word of 288 bytes", strings.Repeat("a", 256+32), nil, api.ErrText},
		{"a great letter", "Id", nil, api.ErrText},
		{"a blank", "a b", nil, api.ErrText},
		{"an underline", "a_b", nil, api.ErrText},
		{"a letter of two bytes", "\u00e4", nil, api.ErrText},
		{"a rune whose last byte is a letter's number", "\u0161", nil, api.ErrText},
		{"what is no rune", "a\xff", nil, api.ErrText},
		{"a nought behind it", "a\x00", nil, api.ErrText},
		{"17 parts", "a", many(17), api.ErrLong},
		{"257 parts", "a", many(257), api.ErrLong},
		{"17 parts without bytes", "a", make([][]byte, 17), api.ErrLong},
		{"a part that is too long", "a", [][]byte{over}, api.ErrLong},
		{"a last part that is too long", "a", append(many(15), over), api.ErrLong},
		{"a wrong word, and 17 parts", "A", many(17), api.ErrText},
		{"no word, and a part that is too long", "", [][]byte{over}, api.ErrText},
		{"a long word, and both", long, append(many(16), over), api.ErrText},
	}
}

// P2.1: the chapter's example, and others whose bytes are written out.
func TestFrameExamples(t *testing.T) {
	known := []struct {
		want  string
		word  string
		parts [][]byte
	}{
		{"\x01a\x00", "a", nil},
		{"\x01a\x00", "a", [][]byte{}},
		{"\x01a\x01\x00\x00\x00\x00", "a", [][]byte{nil}},
		{"\x02id\x01\x00\x00\x00\x03abc", "id", [][]byte{[]byte("abc")}},
		{"\x03a-9\x02\x00\x00\x00\x01x\x00\x00\x00\x02yz", "a-9", [][]byte{[]byte("x"), []byte("yz")}},
		{"\x01-\x02\x00\x00\x00\x00\x00\x00\x00\x00", "-", [][]byte{{}, nil}},
	}
	for _, k := range known {
		got, err := mac.Frame(k.word, k.parts...)
		if err != nil || string(got) != k.want {
			t.Errorf("%q and %q: %x, %v, wanted %x", k.word, k.parts, got, err, k.want)
		}
	}
}

// P2.1: each byte of a length that may be counts, up to the greatest part.
func TestFrameLengths(t *testing.T) {
	for _, n := range []int{0, 1, 127, 128, 255, 256, 257, 511, 512, 65535, api.MaxBytes} {
		part := message(n)
		got, err := mac.Frame("word", []byte("front"), part, []byte("back"))
		if err != nil || !bytes.Equal(got, byHand("word", []byte("front"), part, []byte("back"))) {
			t.Errorf("of %d bytes: another text, or %v", n, err)
		}
	}
	full := make([][]byte, 16)
	for i := range full {
		full[i] = message(api.MaxBytes - i)
	}
	for n := range len(full) + 1 {
		got, err := mac.Frame("word", full[:n]...)
		if err != nil || !bytes.Equal(got, byHand("word", full[:n]...)) {
			t.Errorf("%d parts: another text, or %v", n, err)
		}
	}
}

// P2.1: words of 1 to 32 bytes of those that may be, each byte at each place.
func TestFrameWords(t *testing.T) {
	const allowed = "abcdefghijklmnopqrstuvwxyz0123456789-"
	for n := 1; n <= 32; n++ {
		for i := range n {
			for c := range 256 {
				b := bytes.Repeat([]byte("m"), n)
				b[i] = byte(c)
				word := string(b)
				got, err := mac.Frame(word)
				if strings.IndexByte(allowed, byte(c)) >= 0 {
					if err != nil || !bytes.Equal(got, byHand(word)) {
						t.Fatalf("%q: %x, %v", word, got, err)
					}
				} else if !errors.Is(err, api.ErrText) || got != nil {
					t.Fatalf("%q: %x, %v, wanted %v", word, got, err, api.ErrText)
				}
			}
		}
	}
}

// P2.1: what Frame refuses, with the error that the chapter names first, and nothing beside it.
func TestFrameErrors(t *testing.T) {
	for _, w := range wrong() {
		got, err := mac.Frame(w.word, w.parts...)
		if !errors.Is(err, w.err) || got != nil {
			t.Errorf("%s: %d bytes, %v, wanted %v", w.what, len(got), err, w.err)
		}
	}
}

// The rules for every call: what is answered is the caller's.
func TestFrameIsNew(t *testing.T) {
	part := []byte("part")
	one, _ := mac.Frame("word", part)
	other, _ := mac.Frame("word", part)
	for i := range one[:cap(one)] {
		one[:cap(one)][i] = 0xee
	}
	if string(part) != "part" || !bytes.Equal(other, byHand("word", part)) {
		t.Error("writing over an answer changed something else")
	}
}

// alike is lists of parts that have the same bytes one behind the other, cut in each way into two, with parts without bytes about them.
func alike(b []byte) [][][]byte {
	lists := [][][]byte{{b}}
	for i := range len(b) + 1 {
		front, back := b[:i], b[i:]
		lists = append(lists, [][]byte{front, back}, [][]byte{nil, front, back}, [][]byte{front, nil, back}, [][]byte{front, back, nil})
	}
	return lists
}

// P2.2: unlike words or parts have unlike framed texts, however alike their bytes are one behind the other.
func TestUnlikeFramesAreUnlike(t *testing.T) {
	lists := append(alike([]byte("\x00\x00\x00\x01bc")), [][]byte{}, [][]byte{nil}, [][]byte{nil, nil}, [][]byte{nil, nil, nil})
	seen := map[string]string{}
	for _, word := range []string{"a", "ab", "abc", "b", "bc", "c", "a-", "0"} {
		for _, parts := range lists {
			framed, err := mac.Frame(word, parts...)
			if err != nil {
				t.Fatal(err)
			}
			what := word + "|" + told(parts)
			if other, ok := seen[string(framed)]; ok && other != what {
				t.Errorf("%s and %s: both %x", what, other, framed)
			}
			seen[string(framed)] = what
		}
	}
}

// told is parts as a text that tells where each ends.
func told(parts [][]byte) string {
	var b strings.Builder
	for _, p := range parts {
		b.WriteString(hex.EncodeToString(p) + ",")
	}
	return b.String()
}

// P2.2: what is in a part never counts as a word's, a count's or another part's.
func TestFrameOpens(t *testing.T) {
	inner, _ := mac.Frame("inner", []byte("x"), nil)
	for _, parts := range [][][]byte{nil, {nil}, {inner}, {inner, inner}, {inner[1:], inner[:1], nil}, many(16), {message(api.MaxBytes), inner}} {
		for _, word := range []string{"a", "inner", strings.Repeat("z", 32)} {
			framed, err := mac.Frame(word, parts...)
			if err != nil {
				t.Fatal(err)
			}
			holdOpened(t, framed, word, parts)
		}
	}
}

func holdOpened(t *testing.T, framed []byte, word string, parts [][]byte) {
	t.Helper()
	gotWord, got := opened(t, framed)
	if gotWord != word || told(got) != told(parts) {
		t.Errorf("%q and %s, wanted %q and %s", gotWord, told(got), word, told(parts))
	}
}

// FuzzFrame looks for words and parts that a framed text doesn't tell.
func FuzzFrame(f *testing.F) {
	f.Add("a", []byte{}, []byte("b"))
	f.Add("word-9", []byte("\x00\x00\x00\x01b"), []byte{})
	f.Add("Word", []byte("b"), []byte("c"))
	f.Fuzz(func(t *testing.T, word string, a, b []byte) {
		framed, err := mac.Frame(word, a, b)
		if err != nil {
			if framed != nil {
				t.Errorf("%x beside %v", framed, err)
			}
			return
		}
		holdOpened(t, framed, word, [][]byte{a, b})
	})
}
