package whole

import "bulla/api"

const (
	yes = 255
	no  = 0
)

// Truth is a truth's body.
func Truth(is bool) []byte {
	if is {
		return []byte{yes}
	}
	return []byte{no}
}

// IsTrue is the truth of a body.
func IsTrue(b []byte) (bool, error) {
	if len(b) == 0 {
		return false, api.ErrShort
	}
	if len(b) > 1 || b[0] != yes && b[0] != no {
		return false, api.ErrForm
	}
	return b[0] == yes, nil
}
