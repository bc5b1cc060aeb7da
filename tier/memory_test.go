package tier_test

import (
	"slices"
	"strings"
	"testing"
	"unsafe"

	"exchequer/api"
	"exchequer/tier"
)

// spoil writes to the bytes of a text that is in memory of its own.
func spoil(s string) { clear(unsafe.Slice(unsafe.StringData(s), len(s))) }

// TestP14_5HandedIn hands in lists, such as may be and such as may not, with room behind them: they are as they were.
func TestP14_5HandedIn(t *testing.T) {
	for _, l := range [][]tier.Tier{list(), many(20), many(21), of(5, 1, 4, 1, 0, 1), of(5, 1), of(0, -1), of(0, 1, 0, 1), of(3, most+1, -2, 0)} {
		l = append(l, of(7, 7, 8, 8, 9, 9)...)
		was := slices.Clone(l)
		handed := l[:len(l)-3]
		for _, qty := range []int{0, 1, 150, 250, most, -1, most + 1} {
			tier.Check(handed)
			tier.Tiered(handed, qty)
			tier.Volume(handed, qty)
			tier.Format(handed)
			if !slices.Equal(l, was) {
				t.Fatalf("%v, not %v", l, was)
			}
		}
	}
	for _, s := range []string{"10:5,20:7,*:9", "10:5,x", "10:5,5:1,*:1", "*:5 ", strings.Repeat("9", 1001)} {
		text := strings.Clone(s)
		if tier.Parse(text); text != s {
			t.Errorf("%q, not %q", text, s)
		}
	}
}

// TestP14_5Kept spoils what was handed in: what was answered is as it was, and so is what is answered later.
func TestP14_5Kept(t *testing.T) {
	for range 3 {
		l := list()
		n, e := tier.Tiered(l, 250)
		m, f := tier.Volume(l, 250)
		s, g := tier.Format(l)
		clear(l)
		answers(t, "Tiered", n, e, 400, api.OK)
		answers(t, "Volume", m, f, 250, api.OK)
		if s != "100:2000000,200:1500000,*:1000000" || g != api.OK {
			t.Errorf("%q, %d", s, g)
		}
		if e := tier.Check(l); e != api.ErrRange {
			t.Errorf("%v: %d", l, e)
		}
		text := strings.Clone("10:5,20:7,*:9")
		got, _ := tier.Parse(text)
		spoil(text)
		if !slices.Equal(got, of(10, 5, 20, 7, 0, 9)) {
			t.Errorf("%v", got)
		}
		refuses(t, text, api.ErrForm)
	}
}

// TestP14_5Answered spoils answers, the room behind them included: other ones, and later ones, are as they are to be.
func TestP14_5Answered(t *testing.T) {
	want := of(10, 5, 20, 7, 0, 9)
	one, _ := tier.Parse("10:5,20:7,*:9")
	for range 3 {
		l, e := tier.Parse("10:5,20:7,*:9")
		s, f := tier.Format(want)
		other, _ := tier.Format(want)
		if !slices.Equal(l, want) || e != api.OK || s != "10:5,20:7,*:9" || f != api.OK {
			t.Errorf("%v, %d, %q, %d", l, e, s, f)
		}
		_ = append(l, tier.Tier{UpTo: 1, Price: 1})
		clear(l[:cap(l)])
		spoil(s)
		if other != "10:5,20:7,*:9" || !slices.Equal(one, want) {
			t.Errorf("%q, %v", other, one)
		}
	}
	// A text of one piece is new memory, too.
	s, _ := tier.Format(of(0, 7))
	spoil(s)
	formats(t, of(0, 7), "*:7")
	parses(t, "*:7", of(0, 7))
}
