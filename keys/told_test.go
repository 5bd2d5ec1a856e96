package keys_test

import (
	"bytes"
	"crypto/hmac"
	"crypto/sha256"
	"encoding/binary"
	"encoding/hex"
	"regexp"
	"slices"

	"bulla/api"
	"bulla/keys"
)

// The chapter told a second time, in another way: lists that are gone through from their beginning, and the library's HMAC of texts that are framed by hand.

var rightWord = regexp.MustCompile(`\A[a-z0-9-]{1,32}\z`)

// tagByHand is the library's HMAC-SHA256 of a framed text.
func tagByHand(key []byte, word string, parts ...[]byte) []byte {
	h := hmac.New(sha256.New, key)
	h.Write([]byte{byte(len(word))})
	h.Write([]byte(word))
	h.Write([]byte{byte(len(parts))})
	for _, p := range parts {
		h.Write(binary.BigEndian.AppendUint32(nil, uint32(len(p))))
		h.Write(p)
	}
	return h.Sum(nil)
}

// numberByHand is a key's number.
func numberByHand(key []byte) string { return hex.EncodeToString(tagByHand(key, "id")[:16]) }

// wantMake is Make as the chapter tells it.
func wantMake(draw []byte) ([]byte, error) {
	if len(draw) < 16 {
		return nil, api.ErrShort
	}
	if len(draw) > 64 {
		return nil, api.ErrLong
	}
	return tagByHand(draw, "key"), nil
}

// toldRing is a ring as the chapter tells it.
type toldRing struct {
	keys [][]byte
	book []row
}

// row is what was signed, and by which key.
type row struct {
	key             []byte
	domain, message string
}

// is tells whether rows are the same.
func (r row) is(other row) bool {
	return bytes.Equal(r.key, other.key) && r.domain == other.domain && r.message == other.message
}

// find is the key of a number; none, if there is none.
func (g *toldRing) find(id string) []byte {
	for _, k := range g.keys {
		if numberByHand(k) == id {
			return k
		}
	}
	return nil
}

// Add is Add as the chapter tells it.
func (g *toldRing) Add(key []byte) (string, error) {
	if len(key) != 32 {
		return "", api.ErrForm
	}
	if g.find(numberByHand(key)) == nil {
		g.keys = append(g.keys, bytes.Clone(key))
	}
	return numberByHand(key), nil
}

// Has is Has as the chapter tells it.
func (g *toldRing) Has(id string) bool { return g.find(id) != nil }

// what is wrong with what is to be signed or verified, whatever the signature is.
func (g *toldRing) what(id, domain string, message []byte) error {
	switch {
	case g.find(id) == nil:
		return api.ErrKey
	case !rightWord.MatchString(domain):
		return api.ErrText
	case len(message) > 65536:
		return api.ErrLong
	}
	return nil
}

// signed tells whether a row is in the book.
func (g *toldRing) signed(r row) bool { return slices.ContainsFunc(g.book, r.is) }

// Sign is Sign as the chapter tells it.
func (g *toldRing) Sign(id, domain string, message []byte) ([]byte, error) {
	if err := g.what(id, domain, message); err != nil {
		return nil, err
	}
	r := row{g.find(id), domain, string(message)}
	if !g.signed(r) {
		g.book = append(g.book, r)
	}
	return tagByHand(r.key, domain, message), nil
}

// Verify is Verify as the chapter tells it.
func (g *toldRing) Verify(id, domain string, message, signature []byte) error {
	if err := g.what(id, domain, message); err != nil {
		return err
	}
	k := g.find(id)
	if g.signed(row{k, domain, string(message)}) && bytes.Equal(signature, tagByHand(k, domain, message)) {
		return nil
	}
	return api.ErrSign
}

// Signed is Signed as the chapter tells it.
func (g *toldRing) Signed() int { return len(g.book) }

// Copy is Copy as the chapter tells it.
func (g *toldRing) Copy() *toldRing {
	return &toldRing{keys: slices.Clone(g.keys), book: slices.Clone(g.book)}
}

// seal is Seal of a text whose bytes are itself, as the chapter tells it: of the texts that plain refuses, its error.
func (g *toldRing) seal(id string, t keys.Tagged[string]) ([]byte, error) {
	b, err := plain(t.Value)
	if err != nil {
		return nil, err
	}
	return g.Sign(id, t.Domain, b)
}

// open is Open of such a text, as the chapter tells it.
func (g *toldRing) open(id string, t keys.Tagged[string], signature []byte) error {
	b, err := plain(t.Value)
	if err != nil {
		return err
	}
	return g.Verify(id, t.Domain, b, signature)
}

// plain is a text's bytes: ErrName, if one is a question mark, with bytes beside the error.
func plain(s string) ([]byte, error) {
	for i := range len(s) {
		if s[i] == '?' {
			return []byte(s), api.ErrName
		}
	}
	return []byte(s), nil
}
