package oids_test

import (
	"bytes"
	"encoding/hex"
	"errors"
	"math/big"
	"math/rand"
	"regexp"
	"slices"
	"strconv"
	"strings"
	"testing"

	"bulla/api"
	"bulla/oids"
)

const (
	greatest  = 2147483647 // arc
	perFirst  = 40
	mostFirst = 2147483647 + 80 // number of a body
)

// bin is the bytes of figures with blanks between.
func bin(t testing.TB, figures string) []byte {
	t.Helper()
	b, err := hex.DecodeString(strings.ReplaceAll(figures, " ", ""))
	if err != nil {
		t.Fatal(err)
	}
	return b
}

// start is the first bytes of many.
func start(b []byte) []byte { return b[:min(len(b), 24)] }

// isIdentifier tells whether arcs are an identifier's, as the chapter's words do.
func isIdentifier(arcs []int) bool {
	if len(arcs) < 2 || len(arcs) > 16 {
		return false
	}
	if arcs[0] != 0 && arcs[0] != 1 && arcs[0] != 2 {
		return false
	}
	if arcs[0] != 2 && (arcs[1] < 0 || arcs[1] > 39) {
		return false
	}
	return slices.Min(arcs) >= 0 && slices.Max(arcs) <= greatest
}

// right is figures of at most 10 places, with dots between, none needless.
var right = regexp.MustCompile(`\A(0|[1-9][0-9]{0,9})(\.(0|[1-9][0-9]{0,9}))*\z`)

// wantParse is Parse as the chapter tells it.
func wantParse(text string) ([]int, error) {
	if !right.MatchString(text) {
		return nil, api.ErrForm
	}
	var arcs []int
	for _, part := range strings.Split(text, ".") {
		n, err := strconv.ParseInt(part, 10, 64)
		if err != nil {
			panic(err)
		}
		arcs = append(arcs, int(n))
	}
	if !isIdentifier(arcs) {
		return nil, api.ErrRange
	}
	return arcs, nil
}

// textByHand is an identifier's text.
func textByHand(arcs []int) string {
	text := ""
	for i, arc := range arcs {
		if i > 0 {
			text += "."
		}
		text += strconv.Itoa(arc)
	}
	return text
}

// numberByHand is the bytes of a body's number: its figures of base 2, seven a byte, the last one without the highest bit.
func numberByHand(n int) []byte {
	figures := strconv.FormatInt(int64(n), 2)
	for len(figures)%7 != 0 {
		figures = "0" + figures
	}
	var b []byte
	for i := 0; i < len(figures); i += 7 {
		high := "1"
		if i+7 == len(figures) {
			high = "0"
		}
		c, err := strconv.ParseUint(high+figures[i:i+7], 2, 8)
		if err != nil {
			panic(err)
		}
		b = append(b, byte(c))
	}
	return b
}

// bodyByHand is an identifier's body.
func bodyByHand(arcs []int) []byte {
	body := numberByHand(40*arcs[0] + arcs[1])
	for _, arc := range arcs[2:] {
		body = append(body, numberByHand(arc)...)
	}
	return body
}

// meant is what a number's bytes say, however many.
func meant(b []byte) *big.Int {
	n := new(big.Int)
	for _, c := range b {
		n.Mul(n, big.NewInt(128)).Add(n, big.NewInt(int64(c%128)))
	}
	return n
}

// split is the bytes of each number of a body; those behind the last one that ends are a number, too.
func split(body []byte) [][]byte {
	var list [][]byte
	from := 0
	for i, c := range body {
		if c < 128 || i == len(body)-1 {
			list = append(list, body[from:i+1])
			from = i + 1
		}
	}
	return list
}

// wantGet is Get as the chapter tells it, sentence by sentence.
func wantGet(body []byte) (string, error) {
	if len(body) == 0 {
		return "", api.ErrShort
	}
	var arcs []int
	for i, b := range split(body) {
		if b[len(b)-1] >= 128 {
			return "", api.ErrShort
		}
		if len(b) > 1 && b[0]%128 == 0 { // without it they say the same
			return "", api.ErrForm
		}
		most := int64(greatest)
		if i == 0 {
			most = mostFirst
		}
		if len(b) > 10 || meant(b).Cmp(big.NewInt(most)) > 0 { // more than 10 bytes say at least 2^70
			return "", api.ErrRange
		}
		n := int(meant(b).Int64())
		if i > 0 {
			arcs = append(arcs, n)
			continue
		}
		for _, first := range []int{0, 1, 2} {
			if second := n - 40*first; second >= 0 && (first == 2 || second < perFirst) {
				arcs = []int{first, second}
			}
		}
	}
	if len(arcs) > 16 {
		return "", api.ErrRange
	}
	return textByHand(arcs), nil
}

// holdText holds all calls that read a text against what the chapter tells.
func holdText(t *testing.T, text string) {
	t.Helper()
	arcs, err := oids.Parse(text)
	wantArcs, wantErr := wantParse(text)
	if !errors.Is(err, wantErr) || !slices.Equal(arcs, wantArcs) || (arcs == nil) != (wantArcs == nil) {
		t.Fatalf("%.60q: %v, %v, wanted %v, %v", text, arcs, err, wantArcs, wantErr)
	}
	body, err := oids.Put(text)
	if !errors.Is(err, wantErr) || (body == nil) != (wantErr != nil) {
		t.Fatalf("%.60q: the body %x, %v, wanted %v", text, body, err, wantErr)
	}
	if oids.Under(text, text) != (wantErr == nil) || oids.Compare(text, text) != 0 {
		t.Fatalf("%.60q: under itself %v, against itself %d", text, oids.Under(text, text), oids.Compare(text, text))
	}
	if wantErr != nil {
		return
	}
	if want := bodyByHand(wantArcs); !bytes.Equal(body, want) {
		t.Fatalf("%s: %x, wanted %x", text, body, want)
	}
	if got, err := oids.Get(body); err != nil || got != text {
		t.Fatalf("%s: %x, read as %s, %v", text, body, got, err)
	}
	if got, err := oids.Text(arcs); err != nil || got != text {
		t.Fatalf("%s: %v, whose text is %s, %v", text, arcs, got, err)
	}
}

// holdBody holds Get against what the chapter tells; what has a text is that text's body.
func holdBody(t *testing.T, body []byte) {
	t.Helper()
	got, err := oids.Get(body)
	want, wantErr := wantGet(body)
	if !errors.Is(err, wantErr) || got != want {
		t.Fatalf("%x..: %.60s, %v, wanted %.60s, %v", start(body), got, err, want, wantErr)
	}
	if err != nil {
		return
	}
	if again, err := oids.Put(got); err != nil || !bytes.Equal(again, body) {
		t.Fatalf("%x is %s, whose body is %x, %v", body, got, again, err)
	}
}

// each gives all texts of so many bytes of an alphabet.
func each(n int, alphabet []byte, do func(b []byte)) {
	b := make([]byte, n)
	var fill func(i int)
	fill = func(i int) {
		if i == n {
			do(b)
			return
		}
		for _, c := range alphabet {
			b[i] = c
			fill(i + 1)
		}
	}
	fill(0)
}

// allBytes is each byte.
func allBytes() []byte {
	b := make([]byte, 256)
	for i := range b {
		b[i] = byte(i)
	}
	return b
}

// edges is the arcs at which something changes: figures, bytes, the greatest one, and those beside them.
func edges() []int {
	list := []int{0, 38, 39, 40, 41, 47, 48, 49, 79, 80, 81, 119, 120}
	for power := 1; power <= 1000000000; power *= 10 {
		list = append(list, power-1, power, power+1)
	}
	for power := range 31 {
		list = append(list, 1<<power-1, 1<<power, 1<<power+1)
	}
	for power := 7; power <= 28; power += 7 { // where the first two arcs' number has one byte more
		list = append(list, 1<<power-81, 1<<power-80, 1<<power-79)
	}
	list = append(list, greatest-81, greatest-80, greatest-79, greatest-1, greatest)
	slices.Sort(list)
	return slices.DeleteFunc(slices.Compact(list), func(n int) bool { return n > greatest })
}

// identifiers is arcs of each length, with each edge at each place, and others.
func identifiers() [][]int {
	var list [][]int
	for _, first := range []int{0, 1, 2} {
		for _, second := range edges() {
			if first == 2 || second < perFirst {
				list = append(list, []int{first, second}, []int{first, second, 0}, []int{first, second, greatest, 5})
			}
		}
	}
	for size := 3; size <= 16; size++ {
		for at := 2; at < size; at++ {
			for _, arc := range edges() {
				arcs := []int{1, 3, 6, 1, 4, 1, 311, 128, 2, 0, 16384, 7, 99, 1, 1, 12}[:size:size]
				arcs[at] = arc
				list = append(list, arcs)
			}
		}
	}
	r := rand.New(rand.NewSource(5))
	for range 5000 {
		arcs := []int{r.Intn(3), r.Intn(perFirst)}
		for range r.Intn(15) {
			arcs = append(arcs, r.Intn(1<<31)>>r.Intn(31))
		}
		list = append(list, arcs)
	}
	return list
}
