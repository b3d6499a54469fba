package ratio_test

import (
	"math/big"
	"math/rand"
	"regexp"
	"strings"
	"testing"

	"equipoise/api"
	"equipoise/ratio"
)

// P3.8

func TestTextExamples(t *testing.T) {
	for s, a := range map[string]api.Ratio{
		"-3/2": ofInts(-3, 2), "5": ofInts(5, 1), "0": ofInts(0, 1), "-5": ofInts(-5, 1), "1": ofInts(1, 1), "-1": ofInts(-1, 1), "1/2": ofInts(1, 2), "-1/2": ofInts(-1, 2), "10/3": ofInts(10, 3), "3/10": ofInts(3, 10), "1/11": ofInts(1, 11),
		"18446744073709551616/3": {N: n(0, 0, 1), D: n(3)}, "-3/18446744073709551616": {N: neg(3), D: n(0, 0, 1)},
	} {
		if got := ratio.Text(a); got != s {
			t.Errorf("%v: %q", a, got)
		}
		if got, ok := ratio.Parse(s); !ok || !same(got, a) {
			t.Errorf("%q: %v, %v", s, got, ok)
		}
	}
	if got := ratio.Text(api.Ratio{N: api.Num{D: []uint32{}}, D: n(1)}); got != "0" {
		t.Errorf("0 that is not nil: %q", got)
	}
}

func TestText(t *testing.T) {
	l := corners()
	r := rand.New(rand.NewSource(6))
	for k := range 400 {
		l = append(l, random(r, []int{20, 200, 2000, fit}[k%4]))
	}
	for _, x := range l {
		a := sure(t, x)
		s := ratio.Text(a)
		if s != x.RatString() {
			t.Fatalf("%v: %q", x, s)
		}
		if got, ok := ratio.Parse(s); !ok || !same(got, a) {
			t.Fatalf("%q: %v, %v", s, got, ok)
		}
	}
}

func TestTextWrong(t *testing.T) {
	for _, a := range wrong() {
		if got := ratio.Text(a); got != "" {
			t.Errorf("%v: %q", a, got)
		}
	}
}

// TestParseNothing has strings that are the text of no Ratio.
func TestParseNothing(t *testing.T) {
	most, next := two(fit, -1).String(), two(fit, 0).String()
	for _, s := range []string{
		"", "/", "//", "-", "-/", "/-", "1/", "-1/", "/1", "/2", "-/2", "1//2", "1/2/", "/1/2", "1/2/3", "1/2/1", "1/1/1",
		"1/1", "3/1", "0/1", "-1/1", "0/2", "0/7", "-0", "-0/1", "-0/2", "2/4", "-2/4", "6/3", "5/5", "100/10", "3/1 ", "2/1",
		"1/0", "0/0", "-1/0", "1/-2", "-1/-2", "1/-1", "1/+2", "+1", "+1/2", "+0", "--1/2", "1/--2", "1-/2", "1/2-",
		"01/2", "1/02", "00/1", "001", "-01/2", "1/0x2", "0x1/2", "1/00", "1/01",
		" 1/2", "1/2 ", "1 /2", "1/ 2", "1 / 2", "\t1", "1\n", "1/2\n", "\x001/2", "1/2\x00", "1\x00/2",
		"1.0", ".5", "1/2.0", "1e2", "1/2e1", "1_0/3", "1,5", "1:2", "1\\2", "1\u20442", "\u00bd", "\uff11/2", "1/\u0662", "\u22121/2", "\xff", "1/\xff", "a", "a/b", "1/b", "a/2", "NaN", "Inf", "inf/1", "nil",
		next, "-" + next, "1/" + next, "-1/" + next, next + "/3", most + "/" + most, next + "/" + next, most + "/" + next, most + "0", "1/0" + most, "0" + most + "/2", most + "/1",
		"1/" + strings.Repeat("9", 3000), strings.Repeat("9", 3000) + "/2", strings.Repeat("1", 1<<20), "1/" + strings.Repeat("1", 1<<20), strings.Repeat("/", 1<<20), strings.Repeat("1/", 1<<19),
	} {
		if got, ok := ratio.Parse(s); ok || !isZero(got) {
			t.Errorf("%.40q: %v, %v", s, got, ok)
		}
	}
	for _, s := range []string{most, "-" + most, "1/" + most, "-1/" + most, most + "/2", "2/" + most, two(fit, -2).String() + "/" + most} {
		if got, ok := ratio.Parse(s); !ok || !ratio.Right(got) || ratio.Text(got) != s {
			t.Errorf("%.40q: %v, %v", s, got, ok)
		}
	}
}

// TestParseShort tries all strings of up to five of some bytes.
func TestParseShort(t *testing.T) {
	const bytes = "-/01246+ "
	form := regexp.MustCompile("^(0|-?[1-9][0-9]*)(/([2-9]|[1-9][0-9]+))?$")
	l, many := []string{""}, 0
	for range 5 {
		var longer []string
		for _, s := range l {
			for k := range len(bytes) {
				longer = append(longer, s+bytes[k:k+1])
			}
		}
		for _, s := range longer {
			v, isNumber := new(big.Rat).SetString(s)
			want := isNumber && form.MatchString(s) && v.RatString() == s
			got, ok := ratio.Parse(s)
			if ok != want || ok && ratio.Text(got) != s || !ok && !isZero(got) {
				t.Fatalf("%q: %v, %v", s, got, ok)
			}
			if ok {
				many++
			}
		}
		l = longer
	}
	if many < 1000 {
		t.Error(many)
	}
}
