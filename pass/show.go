package pass

import (
	"errors"
	"slices"

	"bulla/api"
	"bulla/cert"
	"bulla/keys"
	"bulla/moments"
)

const showDomain = "show" // of what a bound key signs

// showing is a token's bytes, and the moment at which they are shown.
type showing struct {
	token []byte
	now   int
}

// Show is a token that is shown at a moment.
func Show(g *keys.Ring, token []byte, now int) ([]byte, error) {
	p, _, _, err := opened(token)
	if err != nil {
		return nil, err
	}
	signature, err := keys.Seal(g, p.Bound, shownAt(token, now), showing.message)
	if err != nil {
		return nil, err
	}
	return cert.Join(token, signature)
}

// Shown is what a token says that is shown.
func Shown(g *keys.Ring, b []byte, now int, audience string) (api.Pass, error) {
	token, signature, err := cert.Split(b) // a token stands beside its showing as a body does beside its signature
	if err != nil {
		return api.Pass{}, err
	}
	p, err := Check(g, token)
	if err != nil {
		return api.Pass{}, err
	}
	err = keys.Open(g, p.Bound, shownAt(token, now), signature, showing.message)
	switch {
	case errors.Is(err, api.ErrSign): // the token's own signature is right: this one proves that who shows it has the key
		return api.Pass{}, api.ErrProof
	case err != nil:
		return api.Pass{}, err
	case p.Audience != audience:
		return api.Pass{}, api.ErrUsage
	case now > p.Expiry:
		return api.Pass{}, api.ErrExpired
	}
	return p, nil
}

// shownAt is a showing with its domain.
func shownAt(token []byte, now int) keys.Tagged[showing] {
	return keys.Tagged[showing]{Domain: showDomain, Value: showing{token, now}}
}

// message is what the bound key signs: a showing of one moment is nothing at another one.
func (s showing) message() ([]byte, error) {
	at, err := moments.Put(s.now)
	if err != nil {
		return nil, err
	}
	return slices.Concat(s.token, at), nil
}
