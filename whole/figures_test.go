package whole_test

import (
	"errors"
	"math"
	"math/big"
	"regexp"
	"strings"
	"testing"

	"bulla/api"
	"bulla/whole"
)

// right is the figures of a number, at most 18 of them.
var right = regexp.MustCompile(`\A(0|[1-9][0-9]{0,17})\z`)

// wantFigures is Figures as the chapter tells it.
func wantFigures(s string) (int, error) {
	if !right.MatchString(s) {
		return 0, api.ErrForm
	}
	n := 0
	for i := range len(s) {
		n = 10*n + int(s[i]-'0')
	}
	return n, nil
}

// holdFigures holds Figures against what the chapter tells; what has a number is that number's figures.
func holdFigures(t *testing.T, s string) {
	t.Helper()
	got, err := whole.Figures(s)
	want, wantErr := wantFigures(s)
	if !errors.Is(err, wantErr) || got != want {
		t.Fatalf("%.40q: %d, %v, wanted %d, %v", s, got, err, want, wantErr)
	}
	if err == nil && whole.Serial(got) != s {
		t.Fatalf("%q has the number %d, whose figures are %q", s, got, whole.Serial(got))
	}
}

// P4.1: figures that are written out, and those of what has none.
func TestSerialExamples(t *testing.T) {
	examples := map[int]string{
		0: "0", 1: "1", 9: "9", 10: "10", 99: "99", 100: "100", 255: "255", 1000000: "1000000", 1234567890: "1234567890",
		api.MaxSerial: "1099511627776", api.MaxTime: "253402300799", 999999999999999999: "999999999999999999",
		1000000000000000000: "1000000000000000000", math.MaxInt: "9223372036854775807",
		-1: "", -9: "", -10: "", -128: "", -1 << 40: "", math.MinInt + 1: "", math.MinInt: "",
	}
	for n, want := range examples {
		if got := whole.Serial(n); got != want {
			t.Errorf("%d: %q, wanted %q", n, got, want)
		}
	}
}

// P4.1: numbers of all sizes: their figures, which tell them, if there are no more than 18.
func TestSerialIsRead(t *testing.T) {
	list := numbers()
	for power := 1; power <= 1000000000000000000/10; power *= 10 {
		list = append(list, 10*power-1, 10*power, 10*power+1, 2*power, 5*power+7)
	}
	for _, n := range list {
		want := ""
		if n >= 0 {
			want = big.NewInt(int64(n)).String()
		}
		s := whole.Serial(n)
		if s != want {
			t.Fatalf("%d: %q, wanted %q", n, s, want)
		}
		got, err := whole.Figures(s)
		if has := n >= 0 && n < 1000000000000000000; has && (err != nil || got != n) || !has && (!errors.Is(err, api.ErrForm) || got != 0) {
			t.Fatalf("%d: %q, read as %d, %v", n, s, got, err)
		}
	}
}

// P4.1: what Figures refuses, and 0 beside the error.
func TestFiguresErrors(t *testing.T) {
	wrong := []string{
		"", " ", "-", "+", ".", "_", "\x00", "a", "-1", "+1", "-0", "+0", "--1", "00", "01", "007", "0x1", "0b1", "0o7", "0_1", "1_0", "1,0", "1.0", "1.", ".1",
		" 1", "1 ", "1\n", "\n1", "1\x00", "\x001", "1e3", "1a", "a1", "1-", "1+", "1/", "1:", "\u0663", "\uff15", "1\u0663", "\u00b2", "1\xff", "NaN", "inf",
		"1000000000000000000", "9223372036854775807", "9223372036854775808", "-9223372036854775808", "18446744073709551615", "18446744073709551616", "18446744073709551621",
		"099999999999999999", "0999999999999999999", "000000000000000000", "0000000000000000001", "-99999999999999999", "+99999999999999999",
		strings.Repeat("1", 19), strings.Repeat("9", 20), strings.Repeat("9", 256+18), strings.Repeat("0", 1<<16), strings.Repeat("9", 1<<20),
	}
	for _, s := range wrong {
		if got, err := whole.Figures(s); !errors.Is(err, api.ErrForm) || got != 0 {
			t.Errorf("%.40q: %d, %v, wanted %v", s, got, err, api.ErrForm)
		}
	}
}

// P4.1: all texts of up to two bytes, longer ones of bytes at which something changes, and each byte at each place of figures.
func TestFiguresOfAllTexts(t *testing.T) {
	for n := range 3 {
		each(n, allBytes(), func(b []byte) { holdFigures(t, string(b)) })
	}
	for n := 3; n <= 5; n++ {
		each(n, []byte("019+-_ /:a\x00"), func(b []byte) { holdFigures(t, string(b)) })
	}
	for n := 1; n <= 20; n++ {
		for _, figure := range []string{"0", "1", "5", "9"} {
			for i := range n {
				for c := range 256 {
					b := []byte(strings.Repeat(figure, n))
					b[i] = byte(c)
					holdFigures(t, string(b))
				}
			}
		}
	}
}

// FuzzFigures holds whatever text against what the chapter tells.
func FuzzFigures(f *testing.F) {
	for _, s := range []string{"", "0", "00", "17", "-1", "+1", "999999999999999999", "1000000000000000000"} {
		f.Add(s)
	}
	f.Fuzz(holdFigures)
}
