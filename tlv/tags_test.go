package tlv_test

import (
	"math"
	"slices"
	"testing"

	"bulla/tlv"
)

// plain is the tags of elements that aren't made of others, as the document's numbers tell them.
func plain() []int { return []int{1, 2, 3, 4, 5, 6, 10, 12, 24} }

// made is the tags of elements that are.
func made() []int {
	tags := []int{48, 49}
	for n := range 16 {
		tags = append(tags, 160+n)
	}
	return tags
}

// known is all of them.
func known() []int { return append(plain(), made()...) }

// others is numbers that are no tag, some of them with a tag's last byte.
func others() []int {
	list := []int{math.MinInt, math.MaxInt, math.MinInt + 48, 1<<32 + 2, 1<<32 + 48, -2, -48, -160, 256 + 2, 256 + 48, 512 + 160, 65536 + 49}
	for n := -2000; n <= 2000; n++ {
		if !slices.Contains(known(), n) {
			list = append(list, n)
		}
	}
	return list
}

// P3.1: the tags that package api names are known, and no others.
func TestKnown(t *testing.T) {
	for _, tag := range known() {
		if !tlv.Known(tag) {
			t.Errorf("%d isn't known", tag)
		}
	}
	for _, tag := range others() {
		if tlv.Known(tag) {
			t.Errorf("%d is known", tag)
		}
	}
}

// P3.1: lists, sets and contexts are made of others, and nothing else.
func TestMade(t *testing.T) {
	for _, tag := range made() {
		if !tlv.Made(tag) {
			t.Errorf("%d isn't made of others", tag)
		}
	}
	for _, tag := range append(others(), plain()...) {
		if tlv.Made(tag) {
			t.Errorf("%d is made of others", tag)
		}
	}
}
