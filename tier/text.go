package tier

import (
	"math"
	"strconv"
	"strings"

	"exchequer/api"
	"exchequer/wide"
)

const (
	maxText = 1000 // bytes of a text of tiers
	noEnd   = "*"  // what stands for the end of the last tier
)

// Parse is the tiers of a text; ErrLong if it is too long, ErrForm if a piece is of another form, ErrRange if the last one has an end, Check's error if they may not be.
func Parse(s string) ([]Tier, api.Errno) {
	if len(s) > maxText {
		return nil, api.ErrLong
	}
	pieces := strings.Split(s, ",")
	last := len(pieces) - 1
	l := make([]Tier, len(pieces))
	for i, piece := range pieces {
		var formed bool
		if l[i], formed = tierOf(piece, i == last); !formed {
			return nil, api.ErrForm
		}
	}
	// Check finds that too, but only behind ErrMany.
	if l[last].UpTo != 0 {
		return nil, api.ErrRange
	}
	if e := Check(l); e != api.OK {
		return nil, e
	}
	return l, api.OK
}

// Format is the tiers' text; Check's error if they may not be.
func Format(l []Tier) (string, api.Errno) {
	if e := Check(l); e != api.OK {
		return "", e
	}
	pieces := make([]string, len(l))
	for i, t := range l {
		end := noEnd
		if t.UpTo != 0 {
			end = strconv.Itoa(t.UpTo)
		}
		pieces[i] = end + ":" + strconv.Itoa(t.Price)
	}
	return strings.Join(pieces, ","), api.OK
}

// tierOf is the tier of a piece, which may be without end as the last one; false if it is of another form.
func tierOf(piece string, isLast bool) (Tier, bool) {
	end, price, _ := strings.Cut(piece, ":")
	p, priced := numberOf(price)
	if isLast && end == noEnd {
		return Tier{Price: p}, priced
	}
	upTo, ended := numberOf(end)
	return Tier{upTo, p}, priced && ended && upTo > 0
}

// numberOf is a number from 0 on, false if it is none; for one that is no int stands the greatest int, which is out of a tier's bounds as well.
func numberOf(s string) (int, bool) {
	number, e := wide.Parse(s)
	if e == api.ErrForm || strings.HasPrefix(s, "-") {
		return 0, false
	}
	n, beyond := number.Int()
	if e != api.OK || beyond != api.OK {
		return math.MaxInt, true
	}
	return n, true
}
