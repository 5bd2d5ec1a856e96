package request

import (
	"bulla/api"
	"bulla/der"
	"bulla/mac"
	"bulla/names"
)

// Body is its body.
func Body(q api.Request) ([]byte, error) {
	if !Right(q) {
		return nil, api.ErrForm
	}
	key, _ := mac.Bytes(q.Key) // it is a key's number, so there is no error
	var w der.Writer
	w.Open(api.TagList)
	names.Put(&w, q.Subject)
	w.Octets(key)
	w.Flags(q.Usages)
	w.Int(q.Duration)
	der.Rows(&w, api.TagList, q.Alts, func(w *der.Writer, name string) { w.Text(name, api.MaxName) })
	w.Close()
	return w.Done()
}

// Read is what a body says.
func Read(body []byte) (api.Request, error) {
	var q api.Request
	r := der.Read(body)
	r.Enter(api.TagList)
	q.Subject = names.Get(r)
	q.Key, _ = mac.Number(r.Octets(api.KeyID, api.KeyID)) // of other bytes the reader has the error
	q.Usages = r.Flags()
	q.Duration = r.Int(1, api.MaxTime)
	q.Alts = der.Row(r, api.TagList, api.MaxAlts, func(r *der.Reader) string { return r.Text(api.MaxName) })
	r.Leave()
	if err := r.End(); err != nil {
		return api.Request{}, err
	}
	if !Right(q) {
		return api.Request{}, api.ErrForm
	}
	return q, nil
}
