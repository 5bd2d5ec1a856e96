package names

import (
	"bulla/api"
	"bulla/der"
)

// Put writes a subject.
func Put(w *der.Writer, s api.Subject) {
	if w == nil {
		return
	}
	parts, err := Parts(s)
	if err != nil {
		w.Fail(err)
		return
	}
	der.Rows(w, api.TagList, parts, func(w *der.Writer, p api.Part) {
		w.Open(api.TagList)
		w.OID(p.OID)
		w.Text(p.Text, api.MaxText)
		w.Close()
	})
}

// Get reads a subject.
func Get(r *der.Reader) api.Subject {
	if r == nil {
		return api.Subject{}
	}
	parts := der.Row(r, api.TagList, api.MaxParts, func(r *der.Reader) api.Part {
		r.Enter(api.TagList)
		p := api.Part{OID: r.OID(), Text: r.Text(api.MaxText)}
		r.Leave()
		return p
	})
	if r.Err() != nil {
		return api.Subject{}
	}
	s, err := Of(parts)
	if err != nil {
		r.Fail(err)
	}
	return s
}

// Bytes is a subject's bytes.
func Bytes(s api.Subject) ([]byte, error) {
	var w der.Writer
	Put(&w, s)
	return w.Done()
}

// Read is what bytes are.
func Read(b []byte) (api.Subject, error) {
	r := der.Read(b)
	s := Get(r)
	if err := r.End(); err != nil {
		return api.Subject{}, err
	}
	return s, nil
}
