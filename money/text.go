package money

import (
	"strconv"
	"strings"

	"exchequer/api"
)

// decimal is the parts of a decimal's text: without a point its fraction is empty.
type decimal struct {
	below           bool
	whole, fraction string
}

// Parse is the amount of a text; ErrForm if it is of another form or 0 behind -, ErrCurrency if there is no such currency, ErrScale if it has too many decimals, ErrRange if it is out of the bounds.
func Parse(s string) (Amount, api.Errno) {
	ahead, cur, _ := strings.Cut(s, " ")
	d, formed := decimalOf(ahead)
	if strings.Count(s, " ") != 1 || !formed {
		return Amount{}, api.ErrForm
	}
	c, e := find(cur)
	if e != api.OK {
		return Amount{}, e
	}
	// Behind a point there are digits, so that any point is one too many digits at scale 0.
	if len(d.fraction) > c.Scale {
		return Amount{}, api.ErrScale
	}
	units, fits := unitsOf(d.whole + d.fraction + strings.Repeat("0", c.Scale-len(d.fraction)))
	if !fits {
		return Amount{}, api.ErrRange
	}
	if d.below && units == 0 {
		return Amount{}, api.ErrForm
	}
	if d.below {
		units = -units
	}
	return Amount{units, c.Code}, api.OK
}

// String is its text, with all digits of the scale; of an amount that may not be: empty.
func (a Amount) String() string {
	c, e := a.currency()
	if e != api.OK {
		return ""
	}
	digits, below := strings.CutPrefix(strconv.Itoa(a.Units), "-")
	// One digit at least stands ahead of the point.
	digits = strings.Repeat("0", max(0, c.Scale+1-len(digits))) + digits
	point := len(digits) - c.Scale
	text := digits[:point]
	if c.Scale > 0 {
		text += "." + digits[point:]
	}
	if below {
		text = "-" + text
	}
	return text + " " + c.Code
}

// decimalOf is the parts of a text; false if it is no decimal.
func decimalOf(s string) (decimal, bool) {
	size, below := strings.CutPrefix(s, "-")
	whole, fraction, pointed := strings.Cut(size, ".")
	if !areDigits(whole) || whole[0] == '0' && whole != "0" || pointed && !areDigits(fraction) {
		return decimal{}, false
	}
	return decimal{below, whole, fraction}, true
}

// areDigits: is it digits, one or more?
func areDigits(s string) bool {
	for i := range len(s) {
		if s[i] < '0' || s[i] > '9' {
			return false
		}
	}
	return s != ""
}

// unitsOf is what digits say, be there 0 ahead or not; false if it is out of the bounds.
func unitsOf(digits string) (int, bool) {
	units := 0
	for i := range len(digits) {
		digit := int(digits[i] - '0')
		if units > (api.MaxUnits-digit)/10 {
			return 0, false
		}
		units = 10*units + digit
	}
	return units, true
}
