package whole

import (
	"strconv"

	"bulla/api"
)

const maxFigures = 18 // any 18 figures are a number that an int holds

// Serial is a number's figures; none of one below 0.
func Serial(n int) string {
	if n < 0 {
		return ""
	}
	return strconv.Itoa(n)
}

// Figures is the number of figures.
func Figures(s string) (int, error) {
	if len(s) > maxFigures {
		return 0, api.ErrForm
	}
	n, err := strconv.Atoi(s)
	if err != nil || Serial(n) != s { // Atoi reads signs and needless noughts, too
		return 0, api.ErrForm
	}
	return n, nil
}
