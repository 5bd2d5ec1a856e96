package moments

import "bulla/api"

const (
	pairs    = 7 // of figures: the year has two of them
	figures  = 2 * pairs
	bodySize = figures + 1
	zone     = 'Z'
)

// Put is a moment's body.
func Put(t int) ([]byte, error) {
	d, err := Of(t)
	if err != nil {
		return nil, err
	}
	return bodyOf(d.Year/100, d.Year%100, d.Month, d.Day, d.Hour, d.Minute, d.Second), nil
}

// Get is a body's moment.
func Get(b []byte) (int, error) {
	if !isBody(b) {
		return 0, api.ErrForm
	}
	p := pairsOf([bodySize]byte(b))
	return Seconds(Date{Year: 100*p[0] + p[1], Month: p[2], Day: p[3], Hour: p[4], Minute: p[5], Second: p[6]})
}

// bodyOf is numbers of two figures each, and a Z.
func bodyOf(numbers ...int) []byte {
	body := make([]byte, 0, bodySize)
	for _, n := range numbers {
		body = append(body, '0'+byte(n/10), '0'+byte(n%10))
	}
	return append(body, zone)
}

// pairsOf is the numbers of two figures each that a body is made of.
func pairsOf(body [bodySize]byte) [pairs]int {
	var list [pairs]int
	for i := range list {
		list[i] = 10*int(body[2*i]-'0') + int(body[2*i+1]-'0')
	}
	return list
}

// isBody tells whether bytes are 14 figures and a Z, whatever the figures say.
func isBody(b []byte) bool {
	if len(b) != bodySize || b[figures] != zone {
		return false
	}
	for _, c := range b[:figures] {
		if !within('0', '9', int(c)) {
			return false
		}
	}
	return true
}
