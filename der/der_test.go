package der_test

import (
	"bytes"
	"errors"
	"math"
	"slices"
	"testing"

	"bulla/api"
	"bulla/der"
)

// putInt and getInt are of rows of numbers.
func putInt(w *der.Writer, n int) { w.Int(n) }
func getInt(r *der.Reader) int    { return r.Int(0, 99) }

// P8.1: rows that are written out.
func TestRowsExamples(t *testing.T) {
	examples := []struct {
		name string
		tag  int
		list []int
		want string
		err  error
	}{
		{"none", 48, nil, "30 00", nil},
		{"none of a set", 49, []int{}, "31 00", nil},
		{"one", 48, []int{5}, "30 03 02 01 05", nil},
		{"two", 48, []int{5, 4}, "30 06 02 01 05 02 01 04", nil},
		{"a set's", 49, []int{5, 4, 5}, "31 09 02 01 04 02 01 05 02 01 05", nil},
		{"a context's", 162, []int{5, 4}, "a2 06 02 01 05 02 01 04", nil},
		{"no tag of others", 4, []int{5}, "", api.ErrTag},
		{"no tag", 0, nil, "", api.ErrTag},
	}
	for _, e := range examples {
		var w der.Writer
		kept := slices.Clone(e.list)
		der.Rows(&w, e.tag, e.list, putInt)
		if b, err := w.Done(); !same(err, e.err) || !bytes.Equal(b, hexed(t, e.want)) || !slices.Equal(e.list, kept) {
			t.Errorf("%s: %x, %v, wanted %s, %v", e.name, b, err, e.want, e.err)
		}
	}
}

// P8.1: rows of other types, and of rows; what put does besides is done.
func TestRowsOfAnything(t *testing.T) {
	var w der.Writer
	der.Rows(&w, api.TagList, [][]string{{"b", "a"}, nil, {"c"}}, func(w *der.Writer, row []string) {
		w.Bool(len(row) > 0)
		der.Rows(w, api.TagSet, row, func(w *der.Writer, s string) { w.Text(s, 1) })
	})
	w.Int(7)
	b, err := w.Done()
	if err != nil || !bytes.Equal(b, hexed(t, "30 18 01 01 ff 31 06 0c 01 61 0c 01 62 01 01 00 31 00 01 01 ff 31 03 0c 01 63 02 01 07")) {
		t.Errorf("%x, %v", b, err)
	}
}

// P8.1: the errors of rows are those of Open, of what put does, and of Close, the first one.
func TestRowsErrors(t *testing.T) {
	errors := []struct {
		name string
		do   func(w *der.Writer)
		err  error
	}{
		{"of a value", func(w *der.Writer) {
			der.Rows(w, 48, []int{0, -1, 1}, func(w *der.Writer, n int) { w.Moment(n) })
		}, api.ErrRange},
		{"of put's own", func(w *der.Writer) {
			der.Rows(w, 48, []int{0, 1}, func(w *der.Writer, n int) { w.Fail(errOwn); w.Moment(-1) })
		}, errOwn},
		{"of an earlier call", func(w *der.Writer) { w.Close(); der.Rows(w, 4, []int{0}, putInt) }, api.ErrState},
		{"of the tag", func(w *der.Writer) { der.Rows(w, 4, []int{-1}, func(w *der.Writer, n int) { w.Moment(n) }) }, api.ErrTag},
		{"of the levels", func(w *der.Writer) {
			for range 16 {
				w.Open(48)
			}
			der.Rows(w, 48, nil, putInt)
		}, api.ErrDepth},
		{"of the last level", func(w *der.Writer) {
			for range 15 {
				w.Open(48)
			}
			der.Rows(w, 48, nil, putInt)
		}, api.ErrState},
		{"of what put opens", func(w *der.Writer) {
			der.Rows(w, 48, []int{1}, func(w *der.Writer, n int) { w.Open(48) })
		}, api.ErrState},
		{"of what put closes", func(w *der.Writer) {
			der.Rows(w, 48, []int{1, 2}, func(w *der.Writer, n int) { w.Close() })
		}, api.ErrState},
		{"of the size", func(w *der.Writer) {
			der.Rows(w, 48, []int{65530, 65530}, func(w *der.Writer, n int) { w.Octets(make([]byte, n)) })
		}, api.ErrLong},
		{"none", func(w *der.Writer) { der.Rows(w, 48, []int{1, 2}, putInt) }, nil},
	}
	for _, e := range errors {
		var w der.Writer
		e.do(&w)
		if b, err := w.Done(); !same(err, e.err) || e.err != nil && b != nil {
			t.Errorf("%s: %x, %v, wanted %v", e.name, b, err, e.err)
		}
	}
}

// P8.1: put is called for each of the list, in its order.
func TestRowsPutEach(t *testing.T) {
	for n := range 5 {
		var list, put []int
		for i := range n {
			list = append(list, i*i)
		}
		var w der.Writer
		der.Rows(&w, api.TagSet, list, func(w *der.Writer, n int) { put = append(put, n) })
		if b, err := w.Done(); err != nil || !bytes.Equal(b, []byte{49, 0}) || !slices.Equal(put, list) {
			t.Errorf("%v: %v, %x, %v", list, put, b, err)
		}
	}
}

// P8.1: rows that are read, with bounds about how many there are.
func TestRowExamples(t *testing.T) {
	examples := []struct {
		name, text string
		tag, most  int
		want       []int
		err        error
		calls      int
	}{
		{"none", "30 00", 48, 9, nil, nil, 0},
		{"none of none", "30 00", 48, 0, nil, nil, 0},
		{"none below 0", "30 00", 48, -1, nil, nil, 0},
		{"none of the least", "30 00", 48, math.MinInt, nil, nil, 0},
		{"one", "30 03 02 01 05", 48, 9, []int{5}, nil, 1},
		{"one of one", "30 03 02 01 05", 48, 1, []int{5}, nil, 1},
		{"one of none", "30 03 02 01 05", 48, 0, nil, api.ErrLong, 0},
		{"one below 0", "30 03 02 01 05", 48, -1, nil, api.ErrLong, 0},
		{"one of the least", "30 03 02 01 05", 48, math.MinInt, nil, api.ErrLong, 0},
		{"three", "30 09 02 01 05 02 01 04 02 01 06", 48, math.MaxInt, []int{5, 4, 6}, nil, 3},
		{"three of three", "30 09 02 01 05 02 01 04 02 01 06", 48, 3, []int{5, 4, 6}, nil, 3},
		{"three of two", "30 09 02 01 05 02 01 04 02 01 06", 48, 2, nil, api.ErrLong, 2},
		{"a set's", "31 06 02 01 04 02 01 05", 49, 2, []int{4, 5}, nil, 2},
		{"a context's", "a2 06 02 01 05 02 01 04", 162, 2, []int{5, 4}, nil, 2},
		{"another tag", "30 03 02 01 05", 49, 2, nil, api.ErrTag, 0},
		{"no tag of others", "02 01 05", 2, 2, nil, api.ErrTag, 0},
		{"no number first", "30 06 01 01 ff 02 01 05", 48, 2, nil, api.ErrTag, 1},
		{"no number last", "30 06 02 01 05 01 01 ff", 48, 2, nil, api.ErrTag, 2},
		{"no number behind most", "30 06 02 01 05 01 01 ff", 48, 1, nil, api.ErrLong, 1},
		{"out of its range", "30 06 02 01 64 02 01 05", 48, 1, nil, api.ErrRange, 1},
	}
	for _, e := range examples {
		calls := 0
		r := der.Read(hexed(t, e.text))
		got := der.Row(r, e.tag, e.most, func(r *der.Reader) int { calls++; return getInt(r) })
		if err := r.End(); !same(err, e.err) || !slices.Equal(got, e.want) || e.err != nil && got != nil || calls != e.calls {
			t.Errorf("%s: %v, %v, called %d times, wanted %v, %v, %d times", e.name, got, err, calls, e.want, e.err, e.calls)
		}
	}
}

// P8.1: a row that is read where nothing is left, or behind an error, is none, and get isn't called.
func TestRowOfNothing(t *testing.T) {
	never := func(r *der.Reader) int { t.Error("get is called"); return 1 }
	r := der.Read([]byte{48, 0})
	r.Raw()
	if got := der.Row(r, 48, 9, never); got != nil || !errors.Is(r.Err(), api.ErrShort) {
		t.Errorf("behind all: %v, %v", got, r.Err())
	}
	r = der.Read([]byte{48, 3, 2, 1, 5})
	r.Fail(errOwn)
	if got := der.Row(r, 48, 0, never); got != nil || !errors.Is(r.Err(), errOwn) {
		t.Errorf("behind an error: %v, %v", got, r.Err())
	}
	r = der.Read(nil)
	if got := der.Row(r, 48, 0, never); got != nil || !errors.Is(r.Err(), api.ErrShort) {
		t.Errorf("of no bytes: %v, %v", got, r.Err())
	}
}

// P8.1: get reads as much as it does: two elements each, rows in rows, none, or it fails.
func TestRowOfAnything(t *testing.T) {
	r := der.Read(hexed(t, "30 18 01 01 ff 31 06 0c 01 61 0c 01 62 01 01 00 31 00 01 01 ff 31 03 0c 01 63"))
	rows := der.Row(r, api.TagList, 3, func(r *der.Reader) []string {
		has := r.Bool()
		row := der.Row(r, api.TagSet, 2, func(r *der.Reader) string { return r.Text(1) })
		if has != (len(row) > 0) {
			t.Errorf("%v: %v", has, row)
		}
		return row
	})
	if r.End() != nil || !slices.EqualFunc(rows, [][]string{{"a", "b"}, nil, {"c"}}, slices.Equal) {
		t.Errorf("%v, %v", rows, r.End())
	}
	three := hexed(t, "30 09 02 01 05 02 01 04 02 01 06")
	wrong := []struct {
		name string
		get  func(r *der.Reader) int
		err  error
	}{
		{"two each", func(r *der.Reader) int { return getInt(r)*100 + getInt(r) }, api.ErrShort},
		{"none each", func(r *der.Reader) int { return r.Peek() }, api.ErrLong},
		{"failing", func(r *der.Reader) int { r.Fail(errOwn); return 5 }, errOwn},
		{"failing behind one", func(r *der.Reader) int {
			if n := getInt(r); n == 5 {
				return n
			}
			r.Fail(errOwn)
			return 4
		}, errOwn},
		{"leaving", func(r *der.Reader) int { r.Leave(); return 5 }, api.ErrForm},
		{"leaving at the end", func(r *der.Reader) int {
			n := getInt(r)
			if n == 6 {
				r.Leave()
			}
			return n
		}, api.ErrState},
	}
	for _, e := range wrong {
		r := der.Read(three)
		if got := der.Row(r, 48, 7, e.get); got != nil || !same(r.End(), e.err) {
			t.Errorf("%s: %v, %v, wanted %v", e.name, got, r.End(), e.err)
		}
	}
	r = der.Read(hexed(t, "30 05 30 03 02 01 05"))
	got := der.Row(r, 48, 7, func(r *der.Reader) int { r.Enter(48); return getInt(r) })
	if !slices.Equal(got, []int{5}) || !errors.Is(r.End(), api.ErrState) || r.Err() != nil {
		t.Errorf("entering: %v, %v, %v", got, r.Err(), r.End())
	}
}

// P8.1: behind a row what stands behind it is read on.
func TestBehindARow(t *testing.T) {
	r := der.Read(hexed(t, "30 0b 02 01 01 30 03 02 01 02 02 01 03"))
	r.Enter(48)
	first := r.Int(1, 1)
	row := der.Row(r, 48, 1, getInt)
	last := r.Int(3, 3)
	r.Leave()
	if r.End() != nil || first != 1 || last != 3 || !slices.Equal(row, []int{2}) {
		t.Errorf("%d, %v, %d, %v", first, row, last, r.End())
	}
}

// P8.2: rows are read as they were written, of all tags, of whatever length; one less than there are is ErrLong.
func TestRowsAreRead(t *testing.T) {
	for _, tag := range []int{48, 49, 160, 175} {
		for n := range 40 {
			var list []int
			for i := range n {
				list = append(list, i*2)
			}
			var w der.Writer
			der.Rows(&w, tag, list, putInt)
			b, err := w.Done()
			if err != nil {
				t.Fatal(err)
			}
			r := der.Read(b)
			if got := der.Row(r, tag, n, getInt); r.End() != nil || !slices.Equal(got, list) {
				t.Fatalf("%x: %v, %v, wanted %v", b, got, r.End(), list)
			}
			r = der.Read(b)
			if got := der.Row(r, tag, n-1, getInt); n > 0 && (got != nil || !errors.Is(r.End(), api.ErrLong)) {
				t.Fatalf("%x: %v, %v of %d", b, got, r.End(), n-1)
			}
		}
	}
}

// No call panics where there is no function for its values: nothing is written of them, and nothing reads what is left.
func TestRowsWithoutAFunction(t *testing.T) {
	var w der.Writer
	der.Rows[int](&w, 48, []int{1, 2}, nil)
	if b, err := w.Done(); err != nil || !bytes.Equal(b, []byte{48, 0}) {
		t.Errorf("%x, %v", b, err)
	}
	r := der.Read([]byte{48, 0})
	if got := der.Row[int](r, 48, 1, nil); got != nil || r.End() != nil {
		t.Errorf("%v, %v", got, r.End())
	}
	r = der.Read([]byte{48, 2, 5, 0})
	if got := der.Row[int](r, 48, 1, nil); got != nil || !errors.Is(r.End(), api.ErrForm) {
		t.Errorf("%v, %v", got, r.End())
	}
}
