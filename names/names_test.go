package names_test

import (
	"errors"
	"math"
	"math/rand"
	"slices"
	"strings"
	"testing"

	"bulla/api"
	"bulla/names"
)

// P9.1: subjects that are written out, with their parts and texts.
func TestExamples(t *testing.T) {
	long := "a23456789-123456789-1234"
	examples := []struct {
		subject api.Subject
		text    string
		parts   []api.Part
	}{
		{api.Subject{Kind: api.Workload, Space: "shop", Name: "web"}, "workload:shop/web", []api.Part{{OID: "1.3.9999.1.1", Text: "workload"}, {OID: "1.3.9999.1.2", Text: "shop"}, {OID: "1.3.9999.1.3", Text: "web"}}},
		{api.Subject{Kind: api.Node, Name: "n1"}, "node:n1", []api.Part{{OID: "1.3.9999.1.1", Text: "node"}, {OID: "1.3.9999.1.3", Text: "n1"}}},
		{api.Subject{Kind: api.Operator, Name: "eve"}, "operator:eve", []api.Part{{OID: "1.3.9999.1.1", Text: "operator"}, {OID: "1.3.9999.1.3", Text: "eve"}}},
		{api.Subject{Kind: api.Boot, Name: "n1"}, "boot:n1", []api.Part{{OID: "1.3.9999.1.1", Text: "boot"}, {OID: "1.3.9999.1.3", Text: "n1"}}},
		{api.Subject{Kind: api.CA, Name: "root"}, "ca:root", []api.Part{{OID: "1.3.9999.1.1", Text: "ca"}, {OID: "1.3.9999.1.3", Text: "root"}}},
		{api.Subject{Kind: api.Workload, Space: long, Name: long}, "workload:" + long + "/" + long, []api.Part{{OID: "1.3.9999.1.1", Text: "workload"}, {OID: "1.3.9999.1.2", Text: long}, {OID: "1.3.9999.1.3", Text: long}}},
	}
	for _, e := range examples {
		if !names.Right(e.subject) {
			t.Errorf("%v isn't right", e.subject)
		}
		if got, err := names.Text(e.subject); err != nil || got != e.text {
			t.Errorf("%v: %q, %v, wanted %q", e.subject, got, err, e.text)
		}
		if got, err := names.Parse(e.text); err != nil || got != e.subject {
			t.Errorf("%q: %v, %v, wanted %v", e.text, got, err, e.subject)
		}
		if got, err := names.Parts(e.subject); err != nil || !slices.Equal(got, e.parts) {
			t.Errorf("%v: %v, %v, wanted %v", e.subject, got, err, e.parts)
		}
		if got, err := names.Of(e.parts); err != nil || got != e.subject {
			t.Errorf("%v: %v, %v, wanted %v", e.parts, got, err, e.subject)
		}
	}
}

// P9.1: each kind and number, with each text that is a label, and that isn't, as namespace and as name.
func TestSubjects(t *testing.T) {
	its := slices.Concat(labels(), noLabels())
	for _, kind := range kinds() {
		for _, name := range its {
			holdSubject(t, api.Subject{Kind: kind, Name: name})
			for _, space := range its {
				holdSubject(t, api.Subject{Kind: kind, Space: space, Name: name})
			}
		}
	}
	holdSubject(t, api.Subject{})
}

// P9.1: each byte at each place of a label.
func TestBytesOfLabels(t *testing.T) {
	for c := range 256 {
		for _, s := range []string{string([]byte{byte(c)}), string([]byte{byte(c), 'a'}), string([]byte{'a', byte(c)}), string([]byte{'a', byte(c), 'a'}), strings.Repeat("a", 22) + string([]byte{byte(c), 'a'})} {
			for kind := range 7 {
				holdSubject(t, api.Subject{Kind: kind, Name: s})
				holdSubject(t, api.Subject{Kind: kind, Space: s, Name: "a"})
				holdSubject(t, api.Subject{Kind: kind, Space: "a", Name: s})
			}
			for _, word := range []string{"node:", "workload:a/", "workload:", "ca:", "", "x:"} {
				holdText(t, word+s)
				holdText(t, s+word)
				holdText(t, word+s+"/a")
			}
		}
	}
}

// P9.1: texts that are no right subject's.
func TestNoTexts(t *testing.T) {
	for _, text := range []string{
		"", ":", "/", ":/", "node", "node:", ":n", "n", "node:/n", "node:s/n", "node:n/", "node::n", "node:n:", "node:n:n", "node: n", "node :n", " node:n", "node:n ", "node:n\n",
		"Node:n", "NODE:n", "node:N", "nodes:n", "nod:n", "noden", "node/n", "n:node", "node:-n", "node:n-", "node:n\x00", "\x00node:n", "node\x00:n", "node:" + strings.Repeat("n", 25),
		"workload", "workload:", "workload:w", "workload:/", "workload:/w", "workload:s/", "workload:s//w", "workload:s/w/", "workload:/s/w", "workload:s/w/x", "workload:s:w", "workload:s/w:x", "workload:s/:w", "workload::s/w", "workload/s:w", "workload/s/w", "s/w", "s/w:workload",
		"workload:-s/w", "workload:s-/w", "workload:s/-w", "workload:s/w-", "workload:S/w", "workload:s/W", "workload:" + strings.Repeat("s", 25) + "/w", "workload:s/" + strings.Repeat("w", 25), "workload: s/w", "workload:s /w", "workload:s/ w", "Workload:s/w",
		"operator:s/n", "boot:s/n", "ca:s/n", "operator:", "boot:", "ca:", "operator", "boot", "ca", "1:n", "2:s/w", "api:n", "user:n", "\xff:n", "node:\xff", "node:\u00e9",
	} {
		if got, err := names.Parse(text); !errors.Is(err, api.ErrName) || got != (api.Subject{}) {
			t.Errorf("%q: %#v, %v, wanted %v", text, got, err, api.ErrName)
		}
		holdText(t, text)
	}
}

// P9.1: all texts of few tokens.
func TestTextsOfTokens(t *testing.T) {
	tokens := []string{"node", "workload", "ca", "boot", "operator", ":", "/", "a", "-", "9", "A", "\n"}
	var grow func(text string, left int)
	grow = func(text string, left int) {
		holdText(t, text)
		if left > 0 {
			for _, token := range tokens {
				grow(text+token, left-1)
			}
		}
	}
	grow("", 5)
	for _, begin := range []string{"node:", "workload:", "workload:a/"} {
		grow(begin, 3)
	}
}

// P9.1: texts of right subjects, changed byte by byte.
func TestTextsChanged(t *testing.T) {
	bytesAt := []byte{0, ' ', '-', '.', '/', '0', '9', ':', ';', 'A', '_', '`', 'a', 'z', '{', 0x7f, 0x80, 0xff}
	for _, s := range someRight(rand.New(rand.NewSource(91)), 300) {
		text := textByHand(s)
		for i := range len(text) + 1 {
			holdText(t, text[:i])
			holdText(t, text[i:])
			for _, c := range bytesAt {
				holdText(t, text[:i]+string([]byte{c})+text[i:])
				if i < len(text) {
					holdText(t, text[:i]+string([]byte{c})+text[i+1:])
				}
			}
			if i < len(text) {
				holdText(t, text[:i]+text[i+1:])
			}
		}
	}
}

// P9.1: parts that are no right subject's.
func TestNoParts(t *testing.T) {
	kind, space, name := api.Part{OID: ofKind, Text: "workload"}, api.Part{OID: ofSpace, Text: "s"}, api.Part{OID: ofName, Text: "w"}
	node := api.Part{OID: ofKind, Text: "node"}
	none := api.Part{OID: ofSpace}
	for what, parts := range map[string][]api.Part{
		"none":                                 nil,
		"an empty list":                        {},
		"an empty part":                        {{}},
		"a kind alone":                         {node},
		"a name alone":                         {name},
		"a kind, and an empty name":            {node, {OID: ofName}},
		"a workload without a namespace":       {kind, name},
		"a workload without a name":            {kind, space},
		"a workload with an empty namespace":   {kind, none, name},
		"a workload in another order":          {kind, name, space},
		"a workload, its kind last":            {space, name, kind},
		"a node in a namespace":                {node, space, name},
		"a node in an empty namespace":         {node, none, name},
		"a node, its name first":               {name, node},
		"two names":                            {node, name, name},
		"two kinds":                            {node, node, name},
		"a kind behind the name":               {node, name, node},
		"two namespaces":                       {kind, space, space, name},
		"a namespace behind the name":          {kind, space, name, space},
		"an empty part behind the name":        {node, name, {}},
		"another part behind the name":         {node, name, {OID: "1.3.9999.1.4", Text: "x"}},
		"another part ahead of the kind":       {{OID: "1.3.9999.1.4", Text: "x"}, node, name},
		"another part between":                 {node, {OID: "1.3.9999.1.4", Text: "x"}, name},
		"an identifier with a needless nought": {{OID: "1.3.9999.1.01", Text: "node"}, name},
		"an identifier with more behind":       {{OID: "1.3.9999.1.1.1", Text: "node"}, name},
		"an identifier with less":              {{OID: "1.3.9999.1", Text: "node"}, name},
		"no identifier":                        {{Text: "node"}, {Text: "w"}},
		"a kind that is none":                  {{OID: ofKind, Text: "user"}, name},
		"an empty kind":                        {{OID: ofKind}, name},
		"a kind's number":                      {{OID: ofKind, Text: "1"}, name},
		"a kind in capitals":                   {{OID: ofKind, Text: "Node"}, name},
		"a name that is no label":              {node, {OID: ofName, Text: "w-"}},
		"a name that is too long":              {node, {OID: ofName, Text: strings.Repeat("w", 25)}},
		"a namespace that is no label":         {kind, {OID: ofSpace, Text: "S"}, name},
		"a subject's twice":                    {node, name, node, name},
		"very many":                            slices.Repeat([]api.Part{node, name}, 1000),
	} {
		if got, err := names.Of(parts); !errors.Is(err, api.ErrName) || got != (api.Subject{}) {
			t.Errorf("%s: %#v, %v, wanted %v", what, got, err, api.ErrName)
		}
		holdParts(t, parts)
	}
}

// P9.1: all lists of up to four of some parts.
func TestPartsInAnyOrder(t *testing.T) {
	var some []api.Part
	for _, oid := range []string{ofKind, ofSpace, ofName, "1.3.9999.1.4", ""} {
		for _, text := range []string{"workload", "node", "ca", "", "-"} {
			some = append(some, api.Part{OID: oid, Text: text})
		}
	}
	var grow func(parts []api.Part, left int)
	grow = func(parts []api.Part, left int) {
		holdParts(t, parts)
		if left > 0 {
			for _, p := range some {
				grow(append(slices.Clone(parts), p), left-1)
			}
		}
	}
	grow(nil, 4)
}

// P9.1: parts of right subjects with each field changed, one taken out, and one put in.
func TestPartsChanged(t *testing.T) {
	others := slices.Concat(noLabels(), []string{"node", "workload", "operator", "boot", "ca", "x", ofKind, ofSpace, ofName, "1.3.9999.1.4", "1.3.9999.1", "1.2.840"})
	for _, s := range someRight(rand.New(rand.NewSource(92)), 100) {
		parts := partsByHand(s)
		for i := range parts {
			holdParts(t, slices.Delete(slices.Clone(parts), i, i+1))
			for _, other := range others {
				changed := slices.Clone(parts)
				changed[i].Text = other
				holdParts(t, changed)
				changed = slices.Clone(parts)
				changed[i].OID = other
				holdParts(t, changed)
				holdParts(t, slices.Insert(slices.Clone(parts), i, api.Part{OID: parts[i].OID, Text: other}))
				holdParts(t, slices.Insert(slices.Clone(parts), i, api.Part{OID: other, Text: parts[i].Text}))
			}
		}
	}
}

// P9.1: what Parts answers is the caller's, and Of leaves the room behind a list as it is.
func TestPartsAreTheCallers(t *testing.T) {
	s := api.Subject{Kind: api.Workload, Space: "shop", Name: "web"}
	first, err := names.Parts(s)
	if err != nil {
		t.Fatal(err)
	}
	second, _ := names.Parts(s)
	for i := range first {
		first[i] = api.Part{OID: "x", Text: "y"}
	}
	_ = append(first, api.Part{OID: "x"})
	if third, _ := names.Parts(s); !slices.Equal(second, partsByHand(s)) || !slices.Equal(third, partsByHand(s)) {
		t.Errorf("%v, %v: what was answered is changed by what was answered before", second, third)
	}
	room := append(partsByHand(s), api.Part{OID: "1", Text: "2"}, api.Part{OID: "3", Text: "4"})
	if got, err := names.Of(room[:3]); err != nil || got != s || room[3].Text != "2" || room[4].Text != "4" {
		t.Errorf("%v, %v; the room is %v", got, err, room[3:])
	}
}

// P9.1: the order of subjects, right and not, written out from the first one to the last one.
func TestCompareExamples(t *testing.T) {
	order := []api.Subject{
		{Kind: math.MinInt, Space: "z", Name: "z"}, {Kind: -1}, {Kind: 0}, {Kind: 0, Name: "a"},
		{Kind: 1, Name: ""}, {Kind: 1, Name: "\x00"}, {Kind: 1, Name: "-"}, {Kind: 1, Name: "10"}, {Kind: 1, Name: "9"}, {Kind: 1, Name: "B"}, {Kind: 1, Name: "a"}, {Kind: 1, Name: "a\x00"}, {Kind: 1, Name: "a-"}, {Kind: 1, Name: "a-b"}, {Kind: 1, Name: "a0"}, {Kind: 1, Name: "aa"}, {Kind: 1, Name: "b"}, {Kind: 1, Name: "z"}, {Kind: 1, Name: "\u00e9"}, {Kind: 1, Name: "\uffff"}, {Kind: 1, Name: "\U00010000"}, {Kind: 1, Name: "\xff"},
		{Kind: 1, Space: "a", Name: "a"},
		{Kind: 2, Name: "z"}, {Kind: 2, Space: "a", Name: "b"}, {Kind: 2, Space: "a", Name: "z"}, {Kind: 2, Space: "a-", Name: "a"}, {Kind: 2, Space: "ab", Name: ""}, {Kind: 2, Space: "ab", Name: "a"}, {Kind: 2, Space: "b", Name: "a"},
		{Kind: 3, Name: "a"}, {Kind: 4, Name: "a"}, {Kind: 5, Name: "a"}, {Kind: 6}, {Kind: math.MaxInt},
	}
	for i, a := range order {
		for j, b := range order {
			want := 0
			switch {
			case i < j:
				want = -1
			case i > j:
				want = 1
			}
			if got := names.Compare(a, b); got != want {
				t.Errorf("%#v and %#v: %d, wanted %d", a, b, got, want)
			}
		}
	}
}

// P9.1: the order of any two of many subjects.
func TestCompare(t *testing.T) {
	var some []api.Subject
	its := []string{"", "a", "b", "aa", "ab", "a-", "-", "0", "A", "a/b", "\x00", "\xff", strings.Repeat("a", 100), strings.Repeat("a", 99) + "b"}
	for _, kind := range []int{0, 1, 2, 5, 6, -1, math.MinInt, math.MaxInt} {
		for _, space := range its {
			for _, name := range its {
				some = append(some, api.Subject{Kind: kind, Space: space, Name: name})
			}
		}
	}
	for _, a := range some {
		for _, b := range some {
			if got, want := names.Compare(a, b), wantCompare(a, b); got != want {
				t.Fatalf("%#v and %#v: %d, wanted %d", a, b, got, want)
			}
		}
	}
}

// P9.2: unlike right subjects have unlike texts and unlike bytes; names with hyphens and figures are there that might run into one another.
func TestUnlike(t *testing.T) {
	var its []string
	alphabet := "a0-z"
	var grow func(s string, left int)
	grow = func(s string, left int) {
		if rightName.MatchString(s) {
			its = append(its, s)
		}
		if left > 0 {
			for _, c := range alphabet {
				grow(s+string(c), left-1)
			}
		}
	}
	grow("", 3)
	its = append(its, "node", "workload", "boot", "operator", "ca", strings.Repeat("a", 23), strings.Repeat("a", 24))
	slices.Sort(its)
	its = slices.Compact(its)
	ofText, ofBytes := map[string]api.Subject{}, map[string]api.Subject{}
	take := func(s api.Subject) {
		t.Helper()
		holdSubject(t, s)
		text, _ := names.Text(s)
		b, _ := names.Bytes(s)
		if other, has := ofText[text]; has {
			t.Fatalf("%v and %v have the text %q", s, other, text)
		}
		if other, has := ofBytes[string(b)]; has {
			t.Fatalf("%v and %v have the bytes %x", s, other, b)
		}
		ofText[text], ofBytes[string(b)] = s, s
	}
	for _, name := range its {
		for _, kind := range []int{1, 3, 4, 5} {
			take(api.Subject{Kind: kind, Name: name})
		}
		for _, space := range its {
			take(api.Subject{Kind: 2, Space: space, Name: name})
		}
	}
}

// FuzzParse looks for texts, and for subjects, of which the chapter tells something else.
func FuzzParse(f *testing.F) {
	for _, text := range []string{"", "node:n", "workload:shop/web", "ca:root", "workload:/", "boot:a/b"} {
		f.Add(text, 2, "shop", "web")
	}
	f.Fuzz(func(t *testing.T, text string, kind int, space, name string) {
		holdText(t, text)
		holdText(t, wordByHand(kind)+":"+space+"/"+name)
		holdText(t, wordByHand(kind)+":"+name)
		holdSubject(t, api.Subject{Kind: kind, Space: space, Name: name})
		holdSubject(t, api.Subject{Kind: kind, Name: name})
		holdParts(t, []api.Part{{OID: ofKind, Text: wordByHand(kind)}, {OID: ofSpace, Text: space}, {OID: ofName, Text: name}})
		holdParts(t, []api.Part{{OID: ofKind, Text: text}, {OID: ofName, Text: name}})
	})
}
