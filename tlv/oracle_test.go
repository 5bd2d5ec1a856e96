package tlv_test

import (
	"bytes"
	"encoding/binary"
	"slices"
	"strconv"
	"strings"

	"bulla/api"
	"bulla/tlv"
)

const most = 65530 // bytes of a body

// byHand is an element's bytes, as the chapter tells them.
func byHand(tag int, body []byte) []byte {
	b := []byte{byte(tag)}
	switch n := len(body); {
	case n <= 127:
		b = append(b, byte(n))
	case n <= 255:
		b = append(b, 0x81, byte(n))
	default:
		b = append(b, 0x82, byte(n/256), byte(n%256))
	}
	return append(b, body...)
}

// padded is an element's bytes with a length of count bytes, of which the first ones are noughts, if there are more than are wanted.
func padded(tag, count int, body []byte) []byte {
	length := binary.BigEndian.AppendUint64(nil, uint64(len(body)))
	b := append([]byte{byte(tag), byte(0x80 + count)}, length[8-count:]...)
	return append(b, body...)
}

// message is n bytes that don't repeat soon.
func message(n int) []byte {
	b := make([]byte, n)
	for i := range b {
		b[i] = byte(i*7 + i/251 + 1)
	}
	return b
}

// node is an element as a tree: with a body, or made of others.
type node struct {
	tag  int
	body string
	of   []node
}

// bytes is what the tree looks like as bytes; a set's elements are put as they stand.
func (n node) bytes() []byte {
	body := []byte(n.body)
	for _, o := range n.of {
		body = append(body, o.bytes()...)
	}
	return byHand(n.tag, body)
}

// depth is how many levels the tree has.
func (n node) depth() int {
	deepest := 0
	for _, o := range n.of {
		deepest = max(deepest, o.depth())
	}
	return 1 + deepest
}

// text tells the tree, each one otherwise.
func (n node) text() string {
	var b strings.Builder
	b.WriteString(strconv.Itoa(n.tag) + strconv.Quote(n.body) + "(")
	for _, o := range n.of {
		b.WriteString(o.text())
	}
	return b.String() + ")"
}

// nest is so many lists in one another, innermost what is given.
func nest(lists int, inner []byte) []byte {
	for range lists {
		inner = byHand(0x30, inner)
	}
	return inner
}

// wantNext is Next as the chapter tells it, sentence by sentence.
func wantNext(b []byte) (tlv.Element, []byte, error) {
	var none tlv.Element
	if len(b) == 0 {
		return none, nil, api.ErrShort
	}
	if !slices.Contains(known(), int(b[0])) {
		return none, nil, api.ErrTag
	}
	if len(b) == 1 {
		return none, nil, api.ErrShort
	}
	n, head := uint64(b[1]), 2
	if b[1] >= 0x80 {
		if b[1] == 0x80 || b[1] > 0x84 {
			return none, nil, api.ErrForm
		}
		head += int(b[1] - 0x80)
		if len(b) < head {
			return none, nil, api.ErrShort
		}
		var eight [8]byte
		copy(eight[8-(head-2):], b[2:head])
		n = binary.BigEndian.Uint64(eight[:])
		if b[2] == 0 || n <= 127 {
			return none, nil, api.ErrForm
		}
	}
	if n > most {
		return none, nil, api.ErrLong
	}
	if uint64(len(b)-head) < n {
		return none, nil, api.ErrShort
	}
	return tlv.Element{Tag: int(b[0]), Body: b[head : head+int(n)]}, b[head+int(n):], nil
}

// wantAll is All as the chapter tells it.
func wantAll(b []byte) ([]tlv.Element, error) {
	var list []tlv.Element
	for len(b) > 0 {
		e, rest, err := wantNext(b)
		if err != nil {
			return nil, err
		}
		list, b = append(list, e), rest
	}
	return list, nil
}

// wantCheck is Check and Depth as the chapter tells them.
func wantCheck(b []byte) (int, error) {
	if len(b) > 65536 {
		return 0, api.ErrLong
	}
	e, rest, err := wantNext(b)
	if err != nil {
		return 0, err
	}
	if len(rest) > 0 {
		return 0, api.ErrForm
	}
	deepest := 1
	return deepest, wantParts(e, 1, &deepest)
}

// wantParts asks what is asked of what an element at a level is made of.
func wantParts(e tlv.Element, level int, deepest *int) error {
	*deepest = max(*deepest, level)
	if !slices.Contains(made(), e.Tag) {
		return nil
	}
	var last []byte
	for left := e.Body; len(left) > 0; {
		inner, rest, err := wantNext(left)
		if err != nil {
			return err
		}
		if level+1 > 16 {
			return api.ErrDepth
		}
		if err := wantParts(inner, level+1, deepest); err != nil {
			return err
		}
		text := left[:len(left)-len(rest)]
		if e.Tag == 0x31 && last != nil && bytes.Compare(last, text) > 0 {
			return api.ErrOrder
		}
		last, left = text, rest
	}
	return nil
}
