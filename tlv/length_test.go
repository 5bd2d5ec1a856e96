package tlv_test

import (
	"math"
	"testing"

	"bulla/api"
	"bulla/tlv"
)

// P3.1: sizes that are written out, and those of what can't be.
func TestSizeExamples(t *testing.T) {
	sizes := map[int]int{
		0: 2, 1: 3, 127: 129, 128: 131, 255: 258, 256: 260, 257: 261, 32768: 32772, most - 1: 65533, most: 65534,
		most + 1: 0, 65535: 0, 65536: 0, 65537: 0, -1: 0, -127: 0, -65530: 0, math.MaxInt: 0, math.MinInt: 0,
		1 << 31: 0, 1 << 32: 0, 1<<32 + 5: 0, 1<<24 - 1: 0,
	}
	for n, want := range sizes {
		if got := tlv.Size(n); got != want {
			t.Errorf("of %d: %d, wanted %d", n, got, want)
		}
	}
}

// P3.1: a size is as many bytes as Put makes.
func TestSizeIsWhatIsPut(t *testing.T) {
	for _, n := range lengths() {
		b, err := tlv.Put(tlv.Element{Tag: api.TagOctets, Body: message(n)})
		if err != nil || tlv.Size(n) != len(b) {
			t.Errorf("of %d: %d, but %d are put, %v", n, tlv.Size(n), len(b), err)
		}
	}
	for n := 1; n <= most; n++ {
		if step := tlv.Size(n) - tlv.Size(n-1); step != 1 && (step != 2 || n != 128 && n != 256) {
			t.Errorf("from %d to %d: %d more", n-1, n, step)
		}
	}
}
