package cert

import (
	"bulla/api"
	"bulla/der"
	"bulla/tlv"
)

// Join is a body and a signature.
func Join(body, signature []byte) ([]byte, error) {
	if err := tlv.Check(body); err != nil {
		return nil, err
	}
	if len(signature) != api.Digest {
		return nil, api.ErrForm
	}
	var w der.Writer
	w.Open(api.TagList)
	w.Raw(body)
	w.Octets(signature)
	w.Close()
	return w.Done()
}

// Split is the body and the signature.
func Split(b []byte) ([]byte, []byte, error) {
	r := der.Read(b)
	r.Enter(api.TagList)
	body, signature := r.Raw(), r.Octets(api.Digest, api.Digest)
	r.Leave()
	if err := r.End(); err != nil {
		return nil, nil, err
	}
	return body, signature, nil
}
