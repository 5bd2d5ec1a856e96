package keys

import (
	"maps"

	"bulla/api"
	"bulla/mac"
)

// Ring is keys, and a book of what was signed. Its zero value has no keys and an empty book.
type Ring struct {
	keys map[string][api.Digest]byte // by their numbers
	book map[entry]bool
}

// entry is what was signed. The message stands in it as it is: what counts must not hang on digests that are the same by chance.
type entry struct {
	id, domain, message string
}

// New is a ring without keys.
func New() *Ring { return &Ring{} }

// Add puts a key into it.
func (g *Ring) Add(key []byte) (string, error) {
	if len(key) != api.Digest {
		return "", api.ErrForm
	}
	if g.keys == nil {
		g.keys = map[string][api.Digest]byte{}
	}
	var own [api.Digest]byte
	copy(own[:], key)
	id := mac.ID(key)
	g.keys[id] = own
	return id, nil
}

// Has tells whether it has a key.
func (g *Ring) Has(id string) bool {
	_, has := g.keys[id]
	return has
}

// Sign signs a message.
func (g *Ring) Sign(id, domain string, message []byte) ([]byte, error) {
	signature, err := g.reckon(id, domain, message)
	if err != nil {
		return nil, err
	}
	if g.book == nil {
		g.book = map[entry]bool{}
	}
	g.book[entry{id, domain, string(message)}] = true
	return signature, nil
}

// Verify asks whether a signature counts.
func (g *Ring) Verify(id, domain string, message, signature []byte) error {
	right, err := g.reckon(id, domain, message)
	if err != nil {
		return err
	}
	// whoever has the key can reckon what is right: only the book tells that it was signed here
	if !mac.Same(right, signature) || !g.book[entry{id, domain, string(message)}] {
		return api.ErrSign
	}
	return nil
}

// Signed is how much is in the book.
func (g *Ring) Signed() int { return len(g.book) }

// Copy is one that goes on apart.
func (g *Ring) Copy() *Ring {
	return &Ring{keys: maps.Clone(g.keys), book: maps.Clone(g.book)}
}

// reckon is the signature of a message by a key that it has, whether or not it was signed.
func (g *Ring) reckon(id, domain string, message []byte) ([]byte, error) {
	if g == nil { // Seal and Open are asked of no ring, too: it has no key
		return nil, api.ErrKey
	}
	key, has := g.keys[id]
	if !has {
		return nil, api.ErrKey
	}
	signature, err := mac.Tagged(key[:], domain, message)
	if err != nil {
		return nil, err
	}
	return signature[:], nil
}
