package oids_test

import (
	"errors"
	"math"
	"slices"
	"strings"
	"testing"

	"bulla/api"
	"bulla/oids"
)

// dotted is so many parts with dots between.
func dotted(n int, part string) string {
	return strings.TrimSuffix(strings.Repeat(part+".", n), ".")
}

// P5.1: arcs and texts that are written out.
func TestParseExamples(t *testing.T) {
	examples := map[string][]int{
		"0.0": {0, 0}, "0.1": {0, 1}, "0.39": {0, 39}, "1.0": {1, 0}, "1.39": {1, 39}, "2.0": {2, 0}, "2.39": {2, 39}, "2.40": {2, 40}, "2.999": {2, 999},
		"1.2.840": {1, 2, 840}, "1.2.840.113549": {1, 2, 840, 113549}, "2.5.4.3": {2, 5, 4, 3}, "1.3.6.1.4.1.311.21.20": {1, 3, 6, 1, 4, 1, 311, 21, 20},
		"0.9.2342.19200300.100.1.25": {0, 9, 2342, 19200300, 100, 1, 25}, "2.2147483647": {2, greatest}, "0.0.2147483647": {0, 0, greatest}, "1.39.0.0": {1, 39, 0, 0},
		"1.2.3.4.5.6.7.8.9.10.11.12.13.14.15.16":                                           {1, 2, 3, 4, 5, 6, 7, 8, 9, 10, 11, 12, 13, 14, 15, 16},
		"0.0.0.0.0.0.0.0.0.0.0.0.0.0.0.0":                                                  make([]int, 16),
		"2.2147483647.2147483647.2147483646.1000000000.999999999.2147483640.0.10.100.1000": {2, greatest, greatest, greatest - 1, 1000000000, 999999999, 2147483640, 0, 10, 100, 1000},
	}
	for text, want := range examples {
		if got, err := oids.Parse(text); err != nil || !slices.Equal(got, want) {
			t.Errorf("%s: %v, %v, wanted %v", text, got, err, want)
		}
		if got, err := oids.Text(want); err != nil || got != text {
			t.Errorf("%v: %s, %v, wanted %s", want, got, err, text)
		}
	}
}

// P5.1: what Parse and Put refuse, with the error that the chapter names first, and nothing beside it.
func TestParseErrors(t *testing.T) {
	form := []string{
		"", ".", "..", "a", "1.", ".1", "1..2", ".1.2", "1.2.", "1.2..", "..1.2", "1...2", "01.2", "1.02", "1.2.00", "00.0", "1.2.01", "1.2.3.007", "0.00",
		"-1.2", "1.-2", "1.2.-0", "+1.2", "1.+2", "1.2.-3", " 1.2", "1.2 ", "1. 2", "1 .2", "1.2\n", "\n1.2", "1.2\x00", "\x001.2", "1,2", "1/2", "1:2", "1.2/3", "1-2",
		"1.0x2", "1.1e3", "1.1_0", "1.2.a", "a.1.2", "1.a.2", "1.2.840x", "x1.2.840", "1.\u0663", "\uff11.2", "1.2\xff", "1\u00b72", "1\u30022", "oid:1.2", "{1 2}", "1.2.840.",
		"1.10000000000", "1.99999999999", "10000000000.1", "1.2.12345678901", "2.00000000001", "2.9223372036854775808", "2.18446744073709551617", "2.18446744073709551616.1",
		"1.00000000000000000002", "2.999999999999999999", "2.1000000000000000000", "3.x", "1.40.", "1.40.01", "1.2.4294967296.", "4294967296.a", "9.9.9.10000000000",
		dotted(17, "1") + ".", dotted(17, "1") + ".01", dotted(16, "1") + "..1", dotted(40, "1") + ".x", strings.Repeat(".", 1<<16), strings.Repeat("1", 1<<16), "1.2." + strings.Repeat("0", 1<<16),
	}
	ranged := []string{
		"0", "1", "2", "3", "9", "39", "2147483647", "9999999999", "3.0", "3.1", "4.0", "40.1", "2147483647.1", "2147483648.0", "4294967296.1", "9999999999.9999999999",
		"0.40", "0.41", "1.40", "1.41", "0.2147483647", "1.100", "0.40.1", "1.40.1", "1.2147483648", "0.4294967296", "1.4294967297", "2.2147483648", "2.4294967295", "2.4294967296", "2.9999999999",
		"1.2.2147483648", "1.2.3.2147483648", "1.2.4294967296", "1.2.4294967297", "1.2.9999999999", "1.2.2147483648.3", "3.9999999999", dotted(17, "1"), dotted(17, "0"), dotted(18, "2"), dotted(40, "1"),
		dotted(1<<16, "1"), "1.40." + dotted(14, "1"), dotted(16, "9"), dotted(15, "1") + ".2147483648",
	}
	for err, list := range map[error][]string{api.ErrForm: form, api.ErrRange: ranged} {
		for _, text := range list {
			if got, gotErr := oids.Parse(text); !errors.Is(gotErr, err) || got != nil {
				t.Errorf("%.60q: %v, %v, wanted %v", text, got, gotErr, err)
			}
			if got, gotErr := oids.Put(text); !errors.Is(gotErr, err) || got != nil {
				t.Errorf("%.60q: the body %x, %v, wanted %v", text, got, gotErr, err)
			}
		}
	}
}

// P5.1: what Text refuses, and no text beside the error.
func TestTextErrors(t *testing.T) {
	wrong := [][]int{
		nil, {}, {0}, {1}, {2}, {3}, {3, 0}, {3, 1, 1}, {-1, 0}, {-1, 1}, {math.MinInt, 0}, {math.MaxInt, 0}, {4, 5}, {40, 1}, {1 << 32, 0}, {1<<32 + 1, 1},
		{0, 40}, {1, 40}, {0, 41}, {1, greatest}, {0, -1}, {1, -1}, {2, -1}, {2, math.MinInt}, {0, math.MinInt}, {1, math.MaxInt}, {0, 1 << 32}, {1, 1<<32 + 1}, {0, 1 << 31},
		{2, greatest + 1}, {2, 1<<32 - 1}, {2, 1 << 32}, {2, 1<<32 + 5}, {2, math.MaxInt}, {1, 2, greatest + 1}, {1, 2, -1}, {1, 2, math.MinInt}, {1, 2, math.MaxInt}, {1, 2, 3, 1 << 32},
		{1, 2, -1, 3}, {1, 2, 1 << 31, 3}, {0, 40, 1}, {1, 40, 1}, make([]int, 17), make([]int, 18), make([]int, 1<<16), slices.Repeat([]int{2}, 17),
	}
	for _, arcs := range wrong {
		if got, err := oids.Text(arcs); !errors.Is(err, api.ErrRange) || got != "" {
			t.Errorf("%.60v: %q, %v, wanted %v", arcs, got, err, api.ErrRange)
		}
	}
	for at := range 16 {
		for _, arc := range []int{-1, greatest + 1, 1 << 32, math.MinInt, math.MaxInt} {
			arcs := slices.Repeat([]int{2}, 16)
			arcs[at] = arc
			if got, err := oids.Text(arcs); !errors.Is(err, api.ErrRange) || got != "" {
				t.Errorf("%v: %q, %v, wanted %v", arcs, got, err, api.ErrRange)
			}
		}
	}
}

// P5.1: all first and second arcs up to some bound are an identifier's, or aren't, by the chapter's words.
func TestFirstArcs(t *testing.T) {
	for first := -2; first < 130; first++ {
		for second := -2; second < 130; second++ {
			arcs := []int{first, second}
			want, wantErr := "", api.ErrRange
			if isIdentifier(arcs) {
				want, wantErr = textByHand(arcs), nil
			}
			if got, err := oids.Text(arcs); !errors.Is(err, wantErr) || got != want {
				t.Fatalf("%v: %q, %v, wanted %q, %v", arcs, got, err, want, wantErr)
			}
			holdText(t, textByHand(arcs))
			holdText(t, textByHand(append(arcs, second)))
		}
	}
}

// P5.1 and P5.2: identifiers of each length, with each edge at each place: their texts and bodies tell them.
func TestIdentifiers(t *testing.T) {
	for _, arcs := range identifiers() {
		text := textByHand(arcs)
		if got, err := oids.Text(arcs); err != nil || got != text {
			t.Fatalf("%v: %s, %v, wanted %s", arcs, got, err, text)
		}
		if got, err := oids.Parse(text); err != nil || !slices.Equal(got, arcs) {
			t.Fatalf("%s: %v, %v, wanted %v", text, got, err, arcs)
		}
		holdText(t, text)
		holdBody(t, bodyByHand(arcs))
	}
}

// P5.2: what says the same arcs by more figures is no text.
func TestNoLongerText(t *testing.T) {
	for _, arcs := range identifiers() {
		parts := strings.Split(textByHand(arcs), ".")
		for at := range parts {
			longer := slices.Clone(parts)
			longer[at] = "0" + longer[at]
			text := strings.Join(longer, ".")
			if got, err := oids.Parse(text); !errors.Is(err, api.ErrForm) || got != nil {
				t.Fatalf("%s: %v, %v, wanted %v", text, got, err, api.ErrForm)
			}
		}
	}
}

// P5.1: how many arcs there may be.
func TestHowManyArcs(t *testing.T) {
	for n := range 40 {
		for _, arc := range []string{"0", "1", "39", "2147483647"} {
			holdText(t, dotted(n, arc))
			holdText(t, "2."+dotted(n, arc))
		}
		arcs := slices.Repeat([]int{1}, n)
		text, err := oids.Text(arcs)
		if has := n >= 2 && n <= 16; has && (err != nil || text != dotted(n, "1")) || !has && (!errors.Is(err, api.ErrRange) || text != "") {
			t.Errorf("%d arcs: %q, %v", n, text, err)
		}
	}
}

// P5.1: all texts of up to two bytes, longer ones of bytes at which something changes, and each byte at each place of a text.
func TestAllTexts(t *testing.T) {
	for n := range 3 {
		each(n, allBytes(), func(b []byte) { holdText(t, string(b)) })
	}
	each(3, []byte("0123456789.,-+ /:ax_\x00\n\xff"), func(b []byte) { holdText(t, string(b)) })
	for n := 4; n <= 5; n++ {
		each(n, []byte("012349.- "), func(b []byte) { holdText(t, string(b)) })
	}
	for _, text := range []string{"1.2.840", "2.2147483647", "0.39.4294967295.1", "2.999999999.12", dotted(16, "1"), dotted(17, "1")} {
		for i := range len(text) {
			for c := range 256 {
				holdText(t, text[:i]+string([]byte{byte(c)})+text[i+1:])
				holdText(t, text[:i]+string([]byte{byte(c)})+text[i:])
			}
			holdText(t, text[:i]+text[i+1:])
			holdText(t, text[:i])
		}
	}
}

// P5.1: how many places a number's figures may have.
func TestPlaces(t *testing.T) {
	for n := range 25 {
		for _, figure := range []string{"0", "1", "2", "9"} {
			for _, ahead := range []string{"", "2.", "1.2.", "3.", dotted(16, "1") + "."} {
				for _, behind := range []string{"", ".1", ".1.2"} {
					holdText(t, ahead+strings.Repeat(figure, n)+behind)
					holdText(t, ahead+"1"+strings.Repeat(figure, n)+behind)
				}
			}
		}
	}
}

// The rules for every call: what is answered is the caller's, with the room behind it, and what is given isn't changed.
func TestArcsAreNew(t *testing.T) {
	one, _ := oids.Parse("1.2.840")
	other, _ := oids.Parse("1.2.840")
	for i := range one[:cap(one)] {
		one[:cap(one)][i] = 39
	}
	if again, _ := oids.Parse("1.2.840"); !slices.Equal(other, []int{1, 2, 840}) || !slices.Equal(again, other) {
		t.Errorf("writing over an answer changed another one: %v, %v", other, again)
	}
	room := []int{1, 2, 840, 7, -1, 5}
	kept := slices.Clone(room)
	for i := range room {
		for n := i; n <= len(room); n++ {
			oids.Text(room[i:n])
		}
	}
	if !slices.Equal(room, kept) {
		t.Errorf("arcs were changed: %v", room)
	}
}

// FuzzParse holds whatever text against what the chapter tells.
func FuzzParse(f *testing.F) {
	for _, text := range []string{"", "1.2.840", "2.2147483647", "2.2147483648", "1.40", "01.2", "1..2", dotted(16, "1"), dotted(17, "1"), "1.10000000000"} {
		f.Add(text)
	}
	f.Fuzz(holdText)
}
