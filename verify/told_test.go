package verify_test

import (
	"bytes"
	"errors"
	"fmt"
	"math/rand"
	"slices"
	"testing"

	"bulla/api"
	"bulla/bundle"
	"bulla/cert"
	"bulla/keys"
	"bulla/verify"
)

// The chapter told a second time, in another way: a list that is kept in order and gone through, windows as what they have in common, usages as figures of twos.

const (
	lastMoment = 253402300799
	mostSerial = 1099511627776
	mostGen    = 1048576
)

// model is a list of revoked ones, as it is to be told.
type model []verify.Serial

// at is where one stands, or is to stand, and whether it does.
func (m model) at(gen, serial int) (int, bool) {
	for i, s := range m {
		if s.Gen == gen && s.Serial == serial {
			return i, true
		}
		if s.Gen > gen || s.Gen == gen && s.Serial > serial {
			return i, false
		}
	}
	return len(m), false
}

// add is Add as the chapter tells it.
func (m *model) add(gen, serial int) bool {
	i, is := m.at(gen, serial)
	if is || gen <= 0 || serial <= 0 {
		return false
	}
	*m = slices.Insert(*m, i, verify.Serial{Gen: gen, Serial: serial})
	return true
}

// has is Has as the chapter tells it.
func (m model) has(gen, serial int) bool {
	_, is := m.at(gen, serial)
	return is
}

// drop is Drop as the chapter tells it.
func (m *model) drop(gen int) int {
	var left model
	for _, s := range *m {
		if s.Gen != gen {
			left = append(left, s)
		}
	}
	were := len(*m) - len(left)
	*m = left
	return were
}

// both is a list of revoked ones, and what it is to be.
type both struct {
	v *verify.Revoked
	m model
}

// listOf is a list of serial numbers, each with its generation ahead.
func listOf(pairs ...[2]int) *both {
	l := &both{v: &verify.Revoked{}}
	for _, p := range pairs {
		l.v.Add(p[0], p[1])
		l.m.add(p[0], p[1])
	}
	return l
}

// asked is what a certificate is held against.
type asked struct {
	g     *keys.Ring
	trust bundle.Bundle
	list  *both
	now   int
	use   int
}

// wantAnchor is the first anchor of a certificate's issuer and generation: from the end on, so that the first one comes last.
func wantAnchor(t bundle.Bundle, c api.Cert) (bundle.Anchor, bool) {
	var found bundle.Anchor
	is := false
	for i := len(t.Anchors) - 1; i >= 0; i-- {
		if a := t.Anchors[i]; a.Key == c.Issuer && a.Gen == c.Gen {
			found, is = a, true
		}
	}
	return found, is
}

// wantUse tells whether usages have all that a use has: both as figures of twos.
func wantUse(usages, use int) bool {
	if use < 0 || use > 15 {
		return false
	}
	have, need := fmt.Sprintf("%04b", usages), fmt.Sprintf("%04b", use)
	for i := range 4 {
		if need[i] == '1' && have[i] == '0' {
			return false
		}
	}
	return true
}

// wantErr is the error of a certificate that was signed.
func wantErr(a asked, c api.Cert) error {
	anchor, is := wantAnchor(a.trust, c)
	switch {
	case !is:
		return api.ErrIssuer
	case a.now < max(anchor.From, c.NotBefore):
		return api.ErrEarly
	case a.now > min(anchor.To, c.NotAfter):
		return api.ErrExpired
	case a.list.m.has(c.Gen, c.Serial):
		return api.ErrRevoked
	case !wantUse(c.Usages, a.use):
		return api.ErrUsage
	}
	return nil
}

// wantCert is Cert as the chapter tells it.
func wantCert(a asked, b []byte) (api.Cert, error) {
	c, err := cert.Check(a.g, b)
	if err == nil {
		err = wantErr(a, c)
	}
	if err != nil {
		return api.Cert{}, err
	}
	return c, nil
}

// wantPeer is Peer as the chapter tells it.
func wantPeer(a asked, b []byte, who api.Subject) error {
	a.use = 8
	c, err := wantCert(a, b)
	if err == nil && (c.Subject.Kind != who.Kind || c.Subject.Space != who.Space || c.Subject.Name != who.Name) {
		err = api.ErrName
	}
	return err
}

// equal tells whether two say the same: all of it, written out by hand.
func equal(a, b api.Cert) bool {
	of := func(c api.Cert) ([7]int, [4]string) {
		return [7]int{c.Serial, c.Gen, c.Subject.Kind, c.NotBefore, c.NotAfter, c.Usages, len(c.Alts)}, [4]string{c.Issuer, c.Subject.Space, c.Subject.Name, c.Key}
	}
	numbersA, textsA := of(a)
	numbersB, textsB := of(b)
	if numbersA != numbersB || textsA != textsB {
		return false
	}
	for i := range a.Alts {
		if a.Alts[i] != b.Alts[i] {
			return false
		}
	}
	return true
}

// zero tells whether nothing at all is said.
func zero(c api.Cert) bool { return c.Alts == nil && equal(c, api.Cert{}) }

// same tells whether errors are the same one, or none both.
func same(got, want error) bool {
	if got == nil || want == nil {
		return got == nil && want == nil
	}
	return errors.Is(got, want)
}

// clone is a bundle of its own.
func clone(b bundle.Bundle) bundle.Bundle {
	b.Anchors = slices.Clone(b.Anchors)
	return b
}

// holdList holds all of a list against what it is to be.
func holdList(t *testing.T, l *both) {
	t.Helper()
	if got := l.v.List(); !slices.Equal(got, l.m) {
		t.Fatalf("the list is %v, wanted %v", got, l.m)
	}
}

// holdAround holds Has of all numbers about those of a list.
func holdAround(t *testing.T, l *both) {
	t.Helper()
	for _, s := range append(slices.Clone(l.m), verify.Serial{Gen: 1, Serial: 1}) {
		for _, gen := range []int{s.Gen - 1, s.Gen, s.Gen + 1, s.Serial, -s.Gen} {
			for _, serial := range []int{s.Serial - 1, s.Serial, s.Serial + 1, s.Gen, -s.Serial} {
				if got, want := l.v.Has(gen, serial), l.m.has(gen, serial); got != want {
					t.Fatalf("%v has %d of %d: %v, wanted %v", l.m, serial, gen, got, want)
				}
			}
		}
	}
}

// holdCert holds Cert against what the chapter tells; ring, bundle, list and bytes stay as they are.
func holdCert(t *testing.T, a asked, b []byte) error {
	t.Helper()
	kept, trust, signed := bytes.Clone(b), clone(a.trust), 0
	if a.g != nil {
		signed = a.g.Signed()
	}
	got, err := verify.Cert(a.g, a.trust, a.list.v, b, a.now, a.use)
	if want, wantErr := wantCert(a, b); !same(err, wantErr) || !equal(got, want) || err != nil && !zero(got) {
		t.Fatalf("%.400x against %+v, %v, at %d, for %d: %+v, %v, wanted %+v, %v", b, a.trust, a.list.m, a.now, a.use, got, err, want, wantErr)
	}
	if !bytes.Equal(b, kept) || !bundle.Same(a.trust, trust) || a.g != nil && a.g.Signed() != signed {
		t.Fatalf("changed: %.400x, from %.400x; %+v, from %+v", b, kept, a.trust, trust)
	}
	holdList(t, a.list)
	return err
}

// holdPeer holds Peer against what the chapter tells.
func holdPeer(t *testing.T, a asked, b []byte, who api.Subject) error {
	t.Helper()
	kept, trust := bytes.Clone(b), clone(a.trust)
	err := verify.Peer(a.g, a.trust, a.list.v, b, a.now, who)
	if want := wantPeer(a, b, who); !same(err, want) {
		t.Fatalf("%.400x against %+v, %v, at %d, of %+v: %v, wanted %v", b, a.trust, a.list.m, a.now, who, err, want)
	}
	if !bytes.Equal(b, kept) || !bundle.Same(a.trust, trust) {
		t.Fatalf("changed: %.400x, from %.400x; %+v, from %+v", b, kept, a.trust, trust)
	}
	holdList(t, a.list)
	return err
}

// holdAll holds All against what the chapter tells of each.
func holdAll(t *testing.T, a asked, list [][]byte) []error {
	t.Helper()
	var kept [][]byte
	for _, b := range list {
		kept = append(kept, bytes.Clone(b))
	}
	errs := verify.All(a.g, a.trust, a.list.v, list, a.now)
	if len(errs) != len(list) {
		t.Fatalf("%d errors of %d", len(errs), len(list))
	}
	a.use = 0
	for i, b := range list {
		if _, want := wantCert(a, b); !same(errs[i], want) {
			t.Fatalf("%d of %d, %.400x: %v, wanted %v", i, len(list), b, errs[i], want)
		}
		if !bytes.Equal(b, kept[i]) {
			t.Fatalf("%d of %d: changed, to %.400x from %.400x", i, len(list), b, kept[i])
		}
	}
	return errs
}

// pick is one of a list.
func pick[T any](r *rand.Rand, list ...T) T { return list[r.Intn(len(list))] }

// labels is texts that are labels, rising.
func labels() []string {
	return []string{"0", "00", "9", "a", "a--b", "a-b", "ab", "b", "shop", "web", "web-1", "xxxxxxxxxxxxxxxxxxxxxxxx", "z"}
}

// times is moments at edges, rising.
func times() []int {
	return []int{0, 1, 59, 60, 86399, 86400, 951782399, 951782400, 951868799, 951868800, 4102444800, lastMoment - 1, lastMoment}
}

// window is two moments, the second one not below the first one.
func window(r *rand.Rand) (from, to int) {
	a, b := pick(r, append(times(), r.Intn(lastMoment))...), pick(r, append(times(), r.Intn(lastMoment))...)
	return min(a, b), max(a, b)
}

// someCert is what a right certificate says that one of two keys has issued.
func someCert(r *rand.Rand) api.Cert {
	c := api.Cert{
		Serial:  pick(r, 1, 2, 3, 127, 128, 255, 256, mostSerial-1, mostSerial, 1+r.Intn(mostSerial)),
		Issuer:  pick(r, id0, id1),
		Gen:     pick(r, 1, 2, 3, 127, 128, mostGen-1, mostGen),
		Subject: api.Subject{Kind: 1 + r.Intn(5), Name: pick(r, labels()...)},
		Key:     pick(r, id0, id1, "0000000000000000000000000000000a"),
		Usages:  1 + r.Intn(15),
	}
	if c.Subject.Kind == api.Workload {
		c.Subject.Space = pick(r, labels()...)
	}
	c.NotBefore, c.NotAfter = window(r)
	for _, name := range labels() {
		if len(c.Alts) < 8 && r.Intn(4) == 0 {
			c.Alts = append(c.Alts, name)
		}
	}
	return c
}
