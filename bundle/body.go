package bundle

import (
	"bytes"

	"bulla/api"
	"bulla/der"
	"bulla/mac"
)

// Bytes is its bytes.
func Bytes(b Bundle) ([]byte, error) {
	if !Right(b) {
		return nil, api.ErrForm
	}
	var w der.Writer
	w.Open(api.TagList)
	w.Int(b.Version)
	w.Text(b.Space, api.MaxName)
	der.Rows(&w, api.TagSet, b.Anchors, func(w *der.Writer, a Anchor) {
		key, _ := mac.Bytes(a.Key) // it is a key's number, so there is no error
		w.Open(api.TagList)
		w.Int(a.Gen)
		w.Octets(key)
		w.Moment(a.From)
		w.Moment(a.To)
		w.Close()
	})
	w.Close()
	return w.Done()
}

// Read is what bytes are.
func Read(x []byte) (Bundle, error) {
	var b Bundle
	r := der.Read(x)
	r.Enter(api.TagList)
	b.Version = r.Int(1, api.MaxSerial)
	b.Space = r.Text(api.MaxName)
	b.Anchors = rising(der.Row(r, api.TagSet, api.MaxGens, func(r *der.Reader) Anchor {
		var a Anchor
		r.Enter(api.TagList)
		a.Gen = r.Int(1, api.MaxGen)
		a.Key, _ = mac.Number(r.Octets(api.KeyID, api.KeyID)) // of other bytes the reader has the error
		a.From, a.To = r.Moment(), r.Moment()
		r.Leave()
		return a
	}))
	r.Leave()
	if err := r.End(); err != nil {
		return Bundle{}, err
	}
	if again, err := Bytes(b); err != nil || !bytes.Equal(again, x) {
		return Bundle{}, api.ErrForm
	}
	return b, nil
}
