package keys

import (
	"maps"

	"bulla/api"
	"bulla/mac"
)

// Ring is keys, and a book of what was signed. Its zero value has no keys and an empty book.
type Ring struct {
	keys map[string][api.Digest]byte // by their numbers
	book map[entry]bool
}

// entry is what was signed, and by which key. Key and message stand in it as they are: what counts must not hang on numbers and digests that are the same by chance.
type entry struct {
	key             [api.Digest]byte
	domain, message string
}

// New is a ring without keys.
func New() *Ring { return &Ring{} }

// Add puts a key into it.
func (g *Ring) Add(key []byte) (string, error) {
	if len(key) != api.Digest {
		return "", api.ErrForm
	}
	id := mac.ID(key)
	if g.Has(id) { // also where it is another key, of the same number by chance: what that one has signed goes on to count
		return id, nil
	}
	if g.keys == nil {
		g.keys = map[string][api.Digest]byte{}
	}
	var own [api.Digest]byte
	copy(own[:], key)
	g.keys[id] = own
	return id, nil
}

// Has tells whether it has a key.
func (g *Ring) Has(id string) bool {
	_, has := g.keys[id]
	return has
}

// Sign signs a message.
func (g *Ring) Sign(id, domain string, message []byte) ([]byte, error) {
	e, signature, err := g.reckon(id, domain, message)
	if err != nil {
		return nil, err
	}
	if g.book == nil {
		g.book = map[entry]bool{}
	}
	g.book[e] = true
	return signature, nil
}

// Verify asks whether a signature counts.
func (g *Ring) Verify(id, domain string, message, signature []byte) error {
	e, right, err := g.reckon(id, domain, message)
	if err != nil {
		return err
	}
	// whoever has the key can reckon what is right: only the book tells that it was signed here
	if !mac.Same(right, signature) || !g.book[e] {
		return api.ErrSign
	}
	return nil
}

// Signed is how much is in the book.
func (g *Ring) Signed() int { return len(g.book) }

// Copy is one that goes on apart.
func (g *Ring) Copy() *Ring {
	return &Ring{keys: maps.Clone(g.keys), book: maps.Clone(g.book)}
}

// reckon is what the book would have of a message, and its signature, by a key that it has, whether or not it was signed.
func (g *Ring) reckon(id, domain string, message []byte) (entry, []byte, error) {
	if g == nil { // Seal and Open are asked of no ring, too: it has no key
		return entry{}, nil, api.ErrKey
	}
	key, has := g.keys[id]
	if !has {
		return entry{}, nil, api.ErrKey
	}
	signature, err := mac.Tagged(key[:], domain, message)
	if err != nil {
		return entry{}, nil, err
	}
	return entry{key, domain, string(message)}, signature[:], nil
}
