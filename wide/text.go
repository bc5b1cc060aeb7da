package wide

import "exchequer/api"

// String is its digits, behind - if it is below 0.
func (a Int) String() string {
	var text [40]byte // the least has 39 digits
	at := len(text)
	for s := a.size(); at == len(text) || s != (size{}); {
		var digit uint64
		s, digit = s.by(10)
		at--
		text[at] = '0' + byte(digit)
	}
	if a.below() {
		at--
		text[at] = '-'
	}
	return string(text[at:])
}

// Parse is the number of digits; ErrForm if they are of another form than String's, ErrRange if it is out of the bounds.
func Parse(s string) (Int, api.Errno) {
	below := len(s) > 0 && s[0] == '-'
	digits := s
	if below {
		digits = s[1:]
	}
	if !formed(digits, below) {
		return Int{}, api.ErrForm
	}
	n, fits := sizeOfDigits(digits)
	if !fits {
		return Int{}, api.ErrRange
	}
	a, e := n.number(below)
	if e != api.OK {
		return Int{}, api.ErrRange
	}
	return a, api.OK
}

// formed: are they digits as a number has them, behind - or not?
func formed(digits string, below bool) bool {
	if digits == "0" {
		return !below
	}
	if digits == "" || digits[0] == '0' {
		return false
	}
	for i := range len(digits) {
		if digits[i] < '0' || digits[i] > '9' {
			return false
		}
	}
	return true
}

// sizeOfDigits is what digits say; false if it doesn't fit.
func sizeOfDigits(digits string) (size, bool) {
	var s size
	for i := range len(digits) {
		tens, fits := s.times(10)
		if !fits {
			return size{}, false
		}
		if s, fits = tens.plus(uint64(digits[i] - '0')); !fits {
			return size{}, false
		}
	}
	return s, true
}
