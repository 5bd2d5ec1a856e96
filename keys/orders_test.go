package keys_test

import (
	"bytes"
	"math/rand"
	"strings"
	"testing"

	"bulla/keys"
)

// pair is a ring, and the same one as the chapter tells it.
type pair struct {
	its  *keys.Ring
	told *toldRing
}

// world is rings that calls are made of, in any order.
type world []pair

func newWorld(n int) world {
	w := make(world, n)
	for i := range w {
		w[i] = pair{keys.New(), &toldRing{}}
	}
	return w
}

// add, sign and so on make a call of a ring, and of the told one, and hold the answers against each other.
func (p pair) add(t testing.TB, key []byte) {
	got, err := p.its.Add(key)
	if want, wantErr := p.told.Add(key); got != want || !same(err, wantErr) {
		t.Fatalf("Add %x: %q, %v, wanted %q, %v", key, got, err, want, wantErr)
	}
}

func (p pair) sign(t testing.TB, id, domain string, message []byte) {
	got, err := p.its.Sign(id, domain, message)
	if want, wantErr := p.told.Sign(id, domain, message); !bytes.Equal(got, want) || !same(err, wantErr) {
		t.Fatalf("Sign %s %q: %x, %v, wanted %x, %v", id, domain, got, err, want, wantErr)
	}
}

func (p pair) verify(t testing.TB, id, domain string, message, signature []byte) {
	err := p.its.Verify(id, domain, message, signature)
	if want := p.told.Verify(id, domain, message, signature); !same(err, want) {
		t.Fatalf("Verify %s %q: %v, wanted %v", id, domain, err, want)
	}
}

func (p pair) seal(t testing.TB, id string, tagged keys.Tagged[string]) {
	got, err := keys.Seal(p.its, id, tagged, plain)
	if want, wantErr := p.told.seal(id, tagged); !bytes.Equal(got, want) || !same(err, wantErr) {
		t.Fatalf("Seal %s %q: %x, %v, wanted %x, %v", id, tagged, got, err, want, wantErr)
	}
}

func (p pair) open(t testing.TB, id string, tagged keys.Tagged[string], signature []byte) {
	err := keys.Open(p.its, id, tagged, signature, plain)
	if want := p.told.open(id, tagged, signature); !same(err, want) {
		t.Fatalf("Open %s %q: %v, wanted %v", id, tagged, err, want)
	}
}

func (p pair) count(t testing.TB) {
	if p.its.Signed() != p.told.Signed() {
		t.Fatalf("%d are signed, wanted %d", p.its.Signed(), p.told.Signed())
	}
}

func (p pair) has(t testing.TB, id string) {
	if p.its.Has(id) != p.told.Has(id) {
		t.Fatalf("Has %q: %v", id, p.its.Has(id))
	}
}

// copied is a pair's copy.
func (p pair) copied() pair { return pair{p.its.Copy(), p.told.Copy()} }

var keyA, keyB = run(7, 32), run(8, 32)

// smallCalls are calls of one of two rings, each with a ring and the other one.
var smallCalls = []func(t testing.TB, w world, at, other int){
	func(t testing.TB, w world, at, other int) { w[at].add(t, keyA) },
	func(t testing.TB, w world, at, other int) { w[at].add(t, keyB) },
	func(t testing.TB, w world, at, other int) { w[at].sign(t, numberByHand(keyA), "a", []byte("m")) },
	func(t testing.TB, w world, at, other int) { w[at].sign(t, numberByHand(keyA), "b", []byte("m")) },
	func(t testing.TB, w world, at, other int) { w[at].sign(t, numberByHand(keyB), "a", []byte("m")) },
	func(t testing.TB, w world, at, other int) { w[other] = w[at].copied() },
}

// observe asks rings all that can be told of few keys, domains and messages.
func observe(t testing.TB, w world) {
	t.Helper()
	for _, p := range w {
		p.count(t)
		for _, key := range [][]byte{keyA, keyB} {
			id := numberByHand(key)
			p.has(t, id)
			for _, domain := range []string{"a", "b"} {
				right := tagByHand(key, domain, []byte("m"))
				p.verify(t, id, domain, []byte("m"), right)
				p.verify(t, id, domain, []byte("n"), right)
				p.verify(t, id, domain, []byte("m"), right[1:])
			}
		}
	}
}

// P10.1: all orders of up to four of twelve calls of two rings.
func TestAllOrders(t *testing.T) {
	most := 4
	if testing.Short() {
		most = 3
	}
	all := 2 * len(smallCalls)
	count := 1
	for n := 1; n <= most; n++ {
		count *= all
		for order := range count {
			w := newWorld(2)
			for rest, i := order, 0; i < n; i++ {
				call := rest % all
				rest /= all
				smallCalls[call/2](t, w, call%2, 1-call%2)
			}
			observe(t, w)
		}
	}
}

// P10.1: long orders by chance, of all calls, of right things and wrong ones.
func TestLongOrders(t *testing.T) {
	r := rand.New(rand.NewSource(10))
	list := [][]byte{keyA, keyB, make([]byte, 32), made(t, draw0), run(7, 31), run(7, 33), nil}
	domains := []string{"a", "ab", "b", "cert", strings.Repeat("z", 32), "", "A", strings.Repeat("z", 33)}
	messages := [][]byte{nil, {0}, []byte("m"), []byte("bm"), []byte("?"), make([]byte, 65536), make([]byte, 65537)}
	for range 300 {
		w := newWorld(3)
		for range 60 {
			at := r.Intn(len(w))
			p, key, domain, message := w[at], list[r.Intn(len(list))], domains[r.Intn(len(domains))], messages[min(r.Intn(40), r.Intn(len(messages)))]
			id, tagged := numberByHand(key), keys.Tagged[string]{Domain: domain, Value: string(message)}
			signature := tagByHand(key, domain, message)
			if r.Intn(4) == 0 {
				signature = tagByHand(list[r.Intn(len(list))], domain, messages[r.Intn(5)])
			}
			switch r.Intn(8) {
			case 0:
				p.add(t, key)
			case 1:
				p.sign(t, id, domain, message)
			case 2:
				p.verify(t, id, domain, message, signature)
			case 3:
				p.seal(t, id, tagged)
			case 4:
				p.open(t, id, tagged, signature)
			case 5:
				p.has(t, id)
			case 6:
				p.count(t)
			case 7:
				if r.Intn(6) == 0 {
					w[r.Intn(len(w))] = p.copied()
				}
			}
		}
		observe(t, w)
	}
}

// FuzzSign looks for keys, domains and messages of which something else is told.
func FuzzSign(f *testing.F) {
	f.Add(run(7, 32), "a", []byte("m"), "b", []byte("m"))
	f.Add(run(7, 32), "cert", []byte{}, "cert", []byte{0})
	f.Add(run(7, 31), "A", []byte("m"), "", []byte("m"))
	f.Fuzz(func(t *testing.T, key []byte, domain string, message []byte, otherDomain string, other []byte) {
		p := newWorld(1)[0]
		id := numberByHand(key)
		p.add(t, key)
		p.has(t, id)
		p.sign(t, id, domain, message)
		for _, d := range []string{domain, otherDomain} {
			for _, m := range [][]byte{message, other} {
				p.verify(t, id, d, m, tagByHand(key, d, m))
				p.verify(t, id, d, m, tagByHand(key, domain, message))
				p.open(t, id, keys.Tagged[string]{Domain: d, Value: string(m)}, tagByHand(key, d, m))
			}
		}
		p.verify(t, id, domain, message, other)
		p.seal(t, id, keys.Tagged[string]{Domain: otherDomain, Value: string(other)})
		p.count(t)
		p.copied().count(t)
	})
}
