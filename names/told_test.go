package names_test

import (
	"bytes"
	"errors"
	"math"
	"math/rand"
	"regexp"
	"slices"
	"strings"
	"testing"

	"bulla/api"
	"bulla/names"
	"bulla/oids"
	"bulla/texts"
	"bulla/tlv"
)

// The chapter told a second time, in another way: texts by patterns, parts by how many there are, elements byte by byte.

const (
	ofKind  = "1.3.9999.1.1"
	ofSpace = "1.3.9999.1.2"
	ofName  = "1.3.9999.1.3"
)

var (
	label     = `[a-z0-9](?:[a-z0-9-]{0,22}[a-z0-9])?`
	rightName = regexp.MustCompile(`\A` + label + `\z`)
	inSpace   = regexp.MustCompile(`\Aworkload:(` + label + `)/(` + label + `)\z`)
	alone     = regexp.MustCompile(`\A(node|operator|boot|ca):(` + label + `)\z`)
)

// kindByHand is the kind of a word; 0, if it is none's.
func kindByHand(word string) int {
	switch word {
	case "node":
		return 1
	case "workload":
		return 2
	case "operator":
		return 3
	case "boot":
		return 4
	case "ca":
		return 5
	}
	return 0
}

// wordByHand is a kind's word.
func wordByHand(kind int) string {
	for _, word := range []string{"node", "workload", "operator", "boot", "ca"} {
		if kindByHand(word) == kind {
			return word
		}
	}
	return ""
}

// wantRight is Right as the chapter tells it.
func wantRight(s api.Subject) bool {
	switch s.Kind {
	case 2:
		return rightName.MatchString(s.Name) && rightName.MatchString(s.Space)
	case 1, 3, 4, 5:
		return rightName.MatchString(s.Name) && s.Space == ""
	}
	return false
}

// partsByHand is the parts of what is right.
func partsByHand(s api.Subject) []api.Part {
	if s.Kind == 2 {
		return []api.Part{{OID: ofKind, Text: "workload"}, {OID: ofSpace, Text: s.Space}, {OID: ofName, Text: s.Name}}
	}
	return []api.Part{{OID: ofKind, Text: wordByHand(s.Kind)}, {OID: ofName, Text: s.Name}}
}

// wantOf is Of as the chapter tells it.
func wantOf(parts []api.Part) (api.Subject, error) {
	var s api.Subject
	switch {
	case len(parts) == 2 && parts[0].OID == ofKind && parts[1].OID == ofName:
		s = api.Subject{Kind: kindByHand(parts[0].Text), Name: parts[1].Text}
	case len(parts) == 3 && parts[0].OID == ofKind && parts[1].OID == ofSpace && parts[2].OID == ofName && parts[0].Text == "workload":
		s = api.Subject{Kind: 2, Space: parts[1].Text, Name: parts[2].Text}
	}
	if !wantRight(s) {
		return api.Subject{}, api.ErrName
	}
	return s, nil
}

// textByHand is the text of what is right.
func textByHand(s api.Subject) string {
	if s.Kind == 2 {
		return "workload:" + s.Space + "/" + s.Name
	}
	return wordByHand(s.Kind) + ":" + s.Name
}

// wantParse is Parse as the chapter tells it.
func wantParse(text string) (api.Subject, error) {
	if found := inSpace.FindStringSubmatch(text); found != nil {
		return api.Subject{Kind: 2, Space: found[1], Name: found[2]}, nil
	}
	if found := alone.FindStringSubmatch(text); found != nil {
		return api.Subject{Kind: kindByHand(found[1]), Name: found[2]}, nil
	}
	return api.Subject{}, api.ErrName
}

// byHand is an element's bytes.
func byHand(tag int, body ...[]byte) []byte {
	all := slices.Concat(body...)
	b := []byte{byte(tag)}
	switch n := len(all); {
	case n <= 127:
		b = append(b, byte(n))
	case n <= 255:
		b = append(b, 0x81, byte(n))
	default:
		b = append(b, 0x82, byte(n/256), byte(n%256))
	}
	return append(b, all...)
}

// partByHand is a part's element: 1.3.9999.1. and the last arc are 2b, ce 0f, 01 and it.
func partByHand(arc byte, text string) []byte {
	return byHand(0x30, []byte{6, 5, 0x2b, 0xce, 0x0f, 1, arc}, byHand(0x0c, []byte(text)))
}

// bytesByHand is the element of what is right.
func bytesByHand(s api.Subject) []byte {
	if s.Kind == 2 {
		return byHand(0x30, partByHand(1, "workload"), partByHand(2, s.Space), partByHand(3, s.Name))
	}
	return byHand(0x30, partByHand(1, wordByHand(s.Kind)), partByHand(3, s.Name))
}

// takeByHand is what an element with a tag is made of, and what stands behind it, of bytes that are whole elements.
func takeByHand(b []byte, tag int) ([]byte, []byte, error) {
	if len(b) == 0 {
		return nil, nil, api.ErrShort
	}
	e, rest, err := tlv.Next(b)
	if err == nil && e.Tag != tag {
		err = api.ErrTag
	}
	return e.Body, rest, err
}

// wantPart is a part's element as it is read.
func wantPart(body []byte) (api.Part, error) {
	id, rest, err := takeByHand(body, 6)
	if err != nil {
		return api.Part{}, err
	}
	oid, err := oids.Get(id)
	if err != nil {
		return api.Part{}, err
	}
	its, rest, err := takeByHand(rest, 12)
	if err != nil {
		return api.Part{}, err
	}
	text, err := texts.Get(its, 64)
	if err != nil {
		return api.Part{}, err
	}
	if len(rest) > 0 {
		return api.Part{}, api.ErrForm
	}
	return api.Part{OID: oid, Text: text}, nil
}

// wantRead is Read as the chapter tells it.
func wantRead(b []byte) (api.Subject, error) {
	if err := tlv.Check(b); err != nil {
		return api.Subject{}, err
	}
	left, _, err := takeByHand(b, 48)
	if err != nil {
		return api.Subject{}, err
	}
	var parts []api.Part
	for len(left) > 0 {
		if len(parts) == 8 {
			return api.Subject{}, api.ErrLong
		}
		var one []byte
		if one, left, err = takeByHand(left, 48); err != nil {
			return api.Subject{}, err
		}
		part, err := wantPart(one)
		if err != nil {
			return api.Subject{}, err
		}
		parts = append(parts, part)
	}
	return wantOf(parts)
}

// wantCompare is Compare as the chapter tells it.
func wantCompare(a, b api.Subject) int {
	switch {
	case a.Kind < b.Kind:
		return -1
	case a.Kind > b.Kind:
		return 1
	}
	if a.Space != b.Space {
		return bytes.Compare([]byte(a.Space), []byte(b.Space))
	}
	return bytes.Compare([]byte(a.Name), []byte(b.Name))
}

// holdSubject holds all calls of one subject against what the chapter tells; each way there has a way back.
func holdSubject(t *testing.T, s api.Subject) {
	t.Helper()
	right := wantRight(s)
	if got := names.Right(s); got != right {
		t.Fatalf("%#v is right: %v, wanted %v", s, got, right)
	}
	parts, partsErr := names.Parts(s)
	text, textErr := names.Text(s)
	b, bytesErr := names.Bytes(s)
	if !right {
		for _, err := range []error{partsErr, textErr, bytesErr} {
			if !errors.Is(err, api.ErrName) {
				t.Fatalf("%#v: %v, %v, %v, wanted %v", s, partsErr, textErr, bytesErr, api.ErrName)
			}
		}
		if parts != nil || text != "" || b != nil {
			t.Fatalf("%#v: %v, %q, %x beside an error", s, parts, text, b)
		}
		return
	}
	if want := partsByHand(s); partsErr != nil || !slices.Equal(parts, want) {
		t.Fatalf("%#v: %v, %v, wanted %v", s, parts, partsErr, want)
	}
	if want := textByHand(s); textErr != nil || text != want {
		t.Fatalf("%#v: %q, %v, wanted %q", s, text, textErr, want)
	}
	if want := bytesByHand(s); bytesErr != nil || !bytes.Equal(b, want) {
		t.Fatalf("%#v: %x, %v, wanted %x", s, b, bytesErr, want)
	}
	if got, err := names.Of(parts); err != nil || got != s {
		t.Fatalf("%#v: of its parts %#v, %v", s, got, err)
	}
	if got, err := names.Parse(text); err != nil || got != s {
		t.Fatalf("%#v: of %q %#v, %v", s, text, got, err)
	}
	if got, err := names.Read(b); err != nil || got != s {
		t.Fatalf("%#v: of %x %#v, %v", s, b, got, err)
	}
}

// holdParts holds Of against what the chapter tells; what has a subject is that subject's parts.
func holdParts(t *testing.T, parts []api.Part) {
	t.Helper()
	kept := slices.Clone(parts)
	got, err := names.Of(parts)
	want, wantErr := wantOf(parts)
	if !errors.Is(err, wantErr) || got != want {
		t.Fatalf("%.300q: %#v, %v, wanted %#v, %v", parts, got, err, want, wantErr)
	}
	if !slices.Equal(parts, kept) {
		t.Fatalf("%.300q: changed, from %.300q", parts, kept)
	}
	if err != nil {
		return
	}
	if again, err := names.Parts(got); err != nil || !slices.Equal(again, parts) {
		t.Fatalf("%q is %#v, whose parts are %q, %v", parts, got, again, err)
	}
}

// holdText holds Parse against what the chapter tells; what has a subject is that subject's text.
func holdText(t *testing.T, text string) {
	t.Helper()
	got, err := names.Parse(text)
	want, wantErr := wantParse(text)
	if !errors.Is(err, wantErr) || got != want {
		t.Fatalf("%.300q: %#v, %v, wanted %#v, %v", text, got, err, want, wantErr)
	}
	if err != nil {
		return
	}
	if again, err := names.Text(got); err != nil || again != text {
		t.Fatalf("%q is %#v, whose text is %q, %v", text, got, again, err)
	}
}

// holdBytes holds Read against what the chapter tells; what has a subject is that subject's bytes.
func holdBytes(t *testing.T, b []byte) {
	t.Helper()
	kept := bytes.Clone(b)
	got, err := names.Read(b)
	want, wantErr := wantRead(b)
	if !errors.Is(err, wantErr) || got != want {
		t.Fatalf("%.300x: %#v, %v, wanted %#v, %v", b, got, err, want, wantErr)
	}
	if !bytes.Equal(b, kept) {
		t.Fatalf("%.300x: changed, from %.300x", b, kept)
	}
	if err != nil {
		return
	}
	if again, err := names.Bytes(got); err != nil || !bytes.Equal(again, b) {
		t.Fatalf("%x is %#v, whose bytes are %x, %v", b, got, again, err)
	}
}

// labels is texts that are, of each length, and with what may stand at each end.
func labels() []string {
	list := []string{"a", "z", "0", "9", "a-b", "a--b", "0-9", "web", "shop", "node", "workload", "ca", "operator", "boot", "web-1"}
	for n := 2; n <= 24; n++ {
		list = append(list, strings.Repeat("x", n), "a"+strings.Repeat("-", n-2)+"9")
	}
	return list
}

// noLabels is texts that are none.
func noLabels() []string {
	list := []string{"", "-", "-a", "a-", "--", "A", "aB", "a_b", "a.b", "a b", " a", "a ", "a/b", "a:b", ":", "/", "/a", "a/", ":a", "a:", "a\x00", "\x00", "a\n", "\u00e9", "a\u00e9", "\xff", "\u0430", "a\x7f", "`", "{", "@"}
	for _, n := range []int{25, 26, 63, 64, 65, 127, 128, 1000} {
		list = append(list, strings.Repeat("x", n))
	}
	return list
}

// kinds is kinds of subjects, and numbers that are none.
func kinds() []int {
	return []int{1, 2, 3, 4, 5, 0, 6, 7, -1, -2, 8, 16, 255, 256, 257, 258, 1 << 32, 1<<32 + 1, 1<<32 + 2, math.MaxInt, math.MinInt, math.MinInt + 1}
}

// someRight is subjects that are right.
func someRight(r *rand.Rand, count int) []api.Subject {
	its := labels()
	list := make([]api.Subject, count)
	for i := range list {
		s := api.Subject{Kind: 1 + r.Intn(5), Name: its[r.Intn(len(its))]}
		if s.Kind == 2 {
			s.Space = its[r.Intn(len(its))]
		}
		list[i] = s
	}
	return list
}
