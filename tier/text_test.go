package tier_test

import (
	"math/big"
	"math/rand/v2"
	"regexp"
	"slices"
	"strconv"
	"strings"
	"testing"

	"exchequer/api"
	"exchequer/tier"
)

// parses holds Parse to a list.
func parses(t *testing.T, s string, want []tier.Tier) {
	t.Helper()
	if l, e := tier.Parse(s); !slices.Equal(l, want) || e != api.OK {
		t.Errorf("Parse(%q): %v, %d, not %v", s, l, e, want)
	}
}

// refuses holds Parse to an error, beside which there is no list.
func refuses(t *testing.T, s string, want api.Errno) {
	t.Helper()
	if l, e := tier.Parse(s); len(l) != 0 || e != want {
		t.Errorf("Parse(%.100q): %v, %d, not %d", s, l, e, want)
	}
}

// formats holds Format to a text.
func formats(t *testing.T, l []tier.Tier, want string) {
	t.Helper()
	if s, e := tier.Format(l); s != want || e != api.OK {
		t.Errorf("Format(%v): %q, %d, not %q", l, s, e, want)
	}
}

// TestP14_4Examples is the chapter's examples.
func TestP14_4Examples(t *testing.T) {
	formats(t, list(), "100:2000000,200:1500000,*:1000000")
	refuses(t, "10:5", api.ErrRange)
	parses(t, "*:5", of(0, 5))
	refuses(t, "10:5,5:1,*:1", api.ErrRange)
}

// TestP14_4Texts reads texts, and tells them again.
func TestP14_4Texts(t *testing.T) {
	for s, l := range map[string][]tier.Tier{
		"*:0": of(0, 0), "*:1": of(0, 1), "*:10": of(0, 10), "*:1125899906842624": of(0, most), "1:0,*:0": of(1, 0, 0, 0), "10:5,*:1": of(10, 5, 0, 1), "9:90,10:0,*:101": of(9, 90, 10, 0, 0, 101),
		"1125899906842624:1125899906842624,*:1125899906842624":                    of(most, most, 0, most),
		"1125899906842623:1125899906842623,1125899906842624:0,*:1125899906842624": of(most-1, most-1, most, 0, 0, most),
		"1:0,2:1000000,3:2000000,*:7":                                             many(4),
	} {
		parses(t, s, l)
		formats(t, l, s)
	}
	parses(t, strings.Join(numbered(19), ",")+",*:5", append(endless(19), tier.Tier{Price: 5}))
}

// numbered are pieces of tiers, each of one more than the one ahead.
func numbered(n int) []string {
	var l []string
	for i := range n {
		l = append(l, strconv.Itoa(i+1)+":"+strconv.Itoa(2*i))
	}
	return l
}

// endless are the tiers of such pieces, without a last one.
func endless(n int) []tier.Tier {
	var l []tier.Tier
	for i := range n {
		l = append(l, tier.Tier{UpTo: i + 1, Price: 2 * i})
	}
	return l
}

// noNumbers are texts that are no number from 0 on.
func noNumbers() []string {
	long := strings.Repeat("9", 60)
	return []string{
		"", "-", "+", "-0", "-1", "-5", "+0", "+1", "00", "01", "007", "-01", "--1", " ", " 1", "1 ", "1 1", "1.", "1.0", ".5", "1e3", "0x1", "1_0", "x", "1x", "x1", "/", "1/", "1\n", "\t1", "\x001", "1\x00", "\u0661", "\uff11", "\xff", "1\xb1", "**", "*1", "1*", "*", "'1'",
		"0" + long, "-" + long, long + "x", long + " ", "+" + long, "-170141183460469231731687303715884105728", "-170141183460469231731687303715884105729", "-9223372036854775808",
	}
}

// TestP14_4Form puts what is no number into each place of texts that are of the form else, be they out of range or not.
func TestP14_4Form(t *testing.T) {
	for _, x := range noNumbers() {
		for _, ahead := range []string{"", "1:1,", "9:1,5:1,", strings.Repeat("9", 50) + ":1,", strings.Repeat("1:1,", 21)} {
			refuses(t, ahead+"*:"+x, api.ErrForm)
			refuses(t, ahead+"50:"+x, api.ErrForm)
			refuses(t, ahead+"50:"+x+",*:1", api.ErrForm)
			refuses(t, ahead+"50:"+x+",60:1", api.ErrForm)
			refuses(t, ahead+x+":1,*:1", api.ErrForm)
			refuses(t, ahead+x, api.ErrForm)
			refuses(t, ahead+x+",*:1", api.ErrForm)
			if x != "*" {
				refuses(t, ahead+x+":1", api.ErrForm)
			}
		}
	}
	for _, s := range []string{
		"", ",", ",,", ":", "::", "*", "*:", ":5", ":*", "*:*", "5", "5:", "5:*", "1:1,5", "*:5,", ",*:5", "1:1,,*:5", "*:5,*:5", "*:5,1:1", "*:1,1:1,*:1", "1:1,*:1,2:1", "*:5:6", "*::5", "5::5,*:1", "1:2:3,*:4", "*:5;", "1:1;*:5", "1:1 ,*:5", "1:1, *:5", "* :5", "*: 5", " *:5", "*:5 ", "*:5\n", "1 :1,*:1", "**:5", "*:5*", "*5", "*,5", "\xff", "*:5,\x00",
		"0:1,*:1", "0:1", "0:0,*:0", "1:1,0:1,*:1", "1:1,0:1", "0:" + strings.Repeat("9", 60), "∗:5", "＊:5", "*：5",
	} {
		refuses(t, s, api.ErrForm)
	}
}

// TestP14_4Long reads texts of 1000 bytes and of more, of whatever form.
func TestP14_4Long(t *testing.T) {
	refuses(t, "*:"+strings.Repeat("9", 998), api.ErrRange)
	refuses(t, "*x"+strings.Repeat("9", 998), api.ErrForm)
	refuses(t, "*:"+strings.Repeat("9", 999), api.ErrLong)
	refuses(t, "*x"+strings.Repeat("9", 999), api.ErrLong)
	for n, want := range map[int]api.Errno{1000: api.ErrForm, 1001: api.ErrLong, 1002: api.ErrLong, 1 << 20: api.ErrLong} {
		for _, c := range []string{"9", "*", ",", ":", "x", "\x00", " "} {
			refuses(t, strings.Repeat(c, n), want)
		}
	}
	refuses(t, strings.Repeat("1:1,", 249)+"*:11", api.ErrMany)
	refuses(t, strings.Repeat("1:1,", 249)+"*:111", api.ErrLong)
	refuses(t, strings.Repeat("1:1,", 249)+"1:11", api.ErrRange)
	refuses(t, strings.Repeat("1:1,", 250), api.ErrForm)
	refuses(t, strings.Repeat("é", 501), api.ErrLong)
}

// TestP14_4Order reads texts with several faults: the one that the chapter names first is told, wherever it stands.
func TestP14_4Order(t *testing.T) {
	long := strings.Repeat("9", 40)
	twenty := strings.Join(numbered(20), ",")
	for s, want := range map[string]api.Errno{
		// A last piece with an end comes ahead of too many, and that ahead of a tier out of its bounds.
		twenty: api.ErrRange, twenty + ",30:1": api.ErrRange, twenty + ",*:1": api.ErrMany, "9:1," + twenty + ",*:1": api.ErrMany,
		twenty + ",*:" + long: api.ErrMany, long + ":1," + twenty + ",*:1": api.ErrMany, "1:" + long + "," + twenty + ",*:1": api.ErrMany, twenty + ",*:1125899906842625": api.ErrMany,
		twenty + "," + long + ":1": api.ErrRange, twenty + ",x": api.ErrForm, "x," + twenty + ",*:1": api.ErrForm, twenty + ",*:1,*:1": api.ErrForm, "*:1," + twenty: api.ErrForm, twenty + ",*:-1": api.ErrForm, twenty + ",*:01": api.ErrForm,
		long + ":1,x": api.ErrForm, "5:1,4:1,x": api.ErrForm, "5:1,x,6:1": api.ErrForm, "1:" + long + ",*:": api.ErrForm,
		// No int.
		"*:9223372036854775807": api.ErrRange, "*:9223372036854775808": api.ErrRange, "*:18446744073709551616": api.ErrRange, "*:18446744073709551621": api.ErrRange, "*:340282366920938463463374607431768211456": api.ErrRange, "*:340282366920938463463374607431768211461": api.ErrRange, "*:170141183460469231731687303715884105727": api.ErrRange, "*:170141183460469231731687303715884105728": api.ErrRange,
		"9223372036854775808:1,*:1": api.ErrRange, "18446744073709551617:1,*:1": api.ErrRange, "340282366920938463463374607431768211457:1,*:1": api.ErrRange, "1:18446744073709551617,*:1": api.ErrRange, "18446744073709551617:1": api.ErrRange, "18446744073709551616:1": api.ErrRange, "18446744073709551616:1,*:1": api.ErrRange, "340282366920938463463374607431768211456:1,*:1": api.ErrRange, "*:" + long: api.ErrRange, long + ":" + long: api.ErrRange, long + ":1," + long + "9:1,*:1": api.ErrRange,
		// Check's.
		"*:1125899906842625": api.ErrRange, "1125899906842625:1,*:1": api.ErrRange, "1:1125899906842625,*:1": api.ErrRange, "5:1,5:1,*:1": api.ErrRange, "5:1,4:1,*:1": api.ErrRange, "1:1,3:1,2:1,*:1": api.ErrRange, "1:1,2:1": api.ErrRange, "1:1": api.ErrRange,
	} {
		refuses(t, s, want)
	}
}

// word is what Parse is to answer a text, by patterns and by math/big.
func word(s string) api.Errno {
	if len(s) > 1000 {
		return api.ErrLong
	}
	if !regexp.MustCompile(`^([1-9]\d*:(0|[1-9]\d*),)*(\*|[1-9]\d*):(0|[1-9]\d*)$`).MatchString(s) {
		return api.ErrForm
	}
	pieces := strings.Split(s, ",")
	if !strings.HasPrefix(pieces[len(pieces)-1], "*") {
		return api.ErrRange
	}
	if len(pieces) > api.MaxTiers {
		return api.ErrMany
	}
	ahead := new(big.Int)
	for _, piece := range pieces {
		end, price, _ := strings.Cut(piece, ":")
		p, _ := new(big.Int).SetString(price, 10)
		u, is := new(big.Int).SetString(end, 10)
		if p.Cmp(big.NewInt(most)) > 0 || is && (u.Cmp(ahead) <= 0 || u.Cmp(big.NewInt(most)) > 0) {
			return api.ErrRange
		}
		ahead = u
	}
	return api.OK
}

// TestP14_4Any reads many texts of the bytes that such texts have, and holds what is taken and what is told again to the pattern.
func TestP14_4Any(t *testing.T) {
	parts := []string{"1", "2", "10", "0", "5:", "*:", "1:1,", "2:0,", "30:7,", ":", ",", "*", "-", " ", "1125899906842624", "1125899906842625", "99999999999999999999999"}
	r := rand.New(rand.NewPCG(14, 4))
	counts := map[api.Errno]int{}
	for range 60000 {
		s := ""
		for range r.IntN(5) {
			s += parts[r.IntN(len(parts))]
		}
		s += []string{"", "*:3", ",*:4"}[r.IntN(3)]
		want := word(s)
		counts[want]++
		if want != api.OK {
			refuses(t, s, want)
			continue
		}
		l, e := tier.Parse(s)
		if back, f := tier.Format(l); e != api.OK || f != api.OK || back != s {
			t.Errorf("%q: %v, %d; %q, %d", s, l, e, back, f)
		}
	}
	for _, e := range []api.Errno{api.OK, api.ErrForm, api.ErrRange} {
		if counts[e] < 1000 {
			t.Errorf("%d of %d", counts[e], e)
		}
	}
}

// TestP14_4FormatFaults tells tiers that may not be: their text is empty.
func TestP14_4FormatFaults(t *testing.T) {
	for _, x := range []struct {
		l []tier.Tier
		e api.Errno
	}{
		{nil, api.ErrMany}, {many(21), api.ErrMany}, {of(5, 1), api.ErrRange}, {of(0, 1, 0, 1), api.ErrRange}, {of(5, 1, 5, 1, 0, 1), api.ErrRange}, {of(-1, 1, 0, 1), api.ErrRange}, {of(0, -1), api.ErrRange}, {of(0, most+1), api.ErrRange}, {of(most+1, 1, 0, 1), api.ErrRange},
	} {
		if s, e := tier.Format(x.l); s != "" || e != x.e {
			t.Errorf("Format(%v): %q, %d, not %d", x.l, s, e, x.e)
		}
	}
	formats(t, many(20), "1:0,2:1000000,3:2000000,4:3000000,5:4000000,6:5000000,7:6000000,8:7000000,9:8000000,10:9000000,11:10000000,12:11000000,13:12000000,14:13000000,15:14000000,16:15000000,17:16000000,18:17000000,19:18000000,*:7")
}
