package num_test

import (
	"math"
	"slices"
	"strings"
	"testing"

	"equipoise/api"
	"equipoise/num"
)

// TestParseNothing has strings that are the text of no number: P1.7.
func TestParseNothing(t *testing.T) {
	most := num.Text(full(256)) // 2^8192 - 1
	next := most[:len(most)-1] + string(most[len(most)-1]+1)
	for _, s := range []string{
		"", "-", "--", "007", "-0", "-007", "00", "-00", "01", "000000000000", "0000000001", "+1", "+", "+0", "--1", "-+1", "+-1", "-1-", "1-", "- 1",
		" 1", "1 ", " ", "\n1", "1\n", "\t", "1_0", "1_000", "1,000", "1.0", "1.", ".1", "1e3", "0x10", "x", "1x", "x1", "-x", "a", "1a", "0b1", "0o7", "1/2", "1:", "1;",
		"\x00", "1\x00", "\xff", "1\xff2", "\u0661", "1\u0662", "\uff11", "\u22121", "nan", "inf", "Inf", "nil",
		"1000000000x", "x1000000000", "1000000000 ", "100000000+1", "1000000000-1", "999999999_", "123456789 123456789", "123456789+23456789", "1234567890_23456789", "1234567890-23456789",
		next, "-" + next, "1" + most, "-1" + most, most + "0", "0" + most, "-0" + most, strings.Repeat("9", 2467), "1" + strings.Repeat("0", 2467),
		strings.Repeat("0", 3000), strings.Repeat("9", 1<<20), "-" + strings.Repeat("9", 1<<20), strings.Repeat("0", 1<<20) + "1", strings.Repeat("x", 1<<20), strings.Repeat("-", 1<<20),
	} {
		if a, ok := num.Parse(s); ok || !isZero(a) {
			t.Errorf("%.40q: %v, %v", s, a, ok)
		}
	}
	if a, ok := num.Parse(most); !ok || !same(a, full(256)) {
		t.Errorf("the greatest number: %v, %v", a, ok)
	}
	if a, ok := num.Parse("-" + most); !ok || !same(a, minus(full(256))) {
		t.Errorf("the least number: %v, %v", a, ok)
	}
}

// TestParseShort tries all strings of up to four of some bytes: P1.7.
func TestParseShort(t *testing.T) {
	const bytes = "-+019 _/:x"
	l := []string{""}
	for range 4 {
		var longer []string
		for _, s := range l {
			for k := range len(bytes) {
				longer = append(longer, s+bytes[k:k+1])
			}
		}
		for _, s := range longer {
			a, ok := num.Parse(s)
			if ok && num.Text(a) != s || ok != short(s) || !ok && !isZero(a) {
				t.Fatalf("%q: %v, %v", s, a, ok)
			}
		}
		l = longer
	}
}

// short reports whether a short string is a text of an integer.
func short(s string) bool {
	s, minus := strings.CutPrefix(s, "-")
	if s == "" || minus && s[0] == '0' || len(s) > 1 && s[0] == '0' {
		return false
	}
	return strings.Trim(s, "0123456789") == ""
}

// TestWrong has arguments that are not right: P1.1 to P1.7.
func TestWrong(t *testing.T) {
	for _, a := range wrong() {
		if num.Bits(a) != 0 || num.Text(a) != "" {
			t.Fatalf("%v: %d, %q", a, num.Bits(a), num.Text(a))
		}
		for _, e := range []int{0, 1, 2, -1, math.MaxInt} {
			if p, ok := num.Pow(a, e); ok || !isZero(p) {
				t.Fatalf("%v to the power of %d: %v, %v", a, e, p, ok)
			}
		}
		for _, b := range slices.Concat([]api.Num{n(), n(1), neg(1), n(2), neg(5), full(2), unit(4), full(256), minus(full(256))}, wrong()) {
			wrongPair(t, a, b)
			wrongPair(t, b, a)
		}
	}
}

// wrongPair checks the calls with two Nums, one of which is not right.
func wrongPair(t *testing.T, a, b api.Num) {
	t.Helper()
	if got := num.Cmp(a, b); got != 0 {
		t.Fatalf("Cmp of %v and %v: %d", a, b, got)
	}
	for name, f := range map[string]func(a, b api.Num) (api.Num, bool){"Add": num.Add, "Sub": num.Sub, "Mul": num.Mul, "Gcd": num.Gcd} {
		if got, ok := f(a, b); ok || !isZero(got) {
			t.Fatalf("%s of %v and %v: %v, %v", name, a, b, got, ok)
		}
	}
	if q, r, ok := num.Div(a, b); ok || !isZero(q) || !isZero(r) {
		t.Fatalf("Div of %v and %v: %v, %v, %v", a, b, q, r, ok)
	}
}

// TestEndsWithoutPanic calls everything with all sorts of arguments: P1.
func TestEndsWithoutPanic(t *testing.T) {
	l := slices.Concat(corners(), wrong())
	for _, a := range l {
		num.Right(a)
		num.Int(a)
		num.Bits(a)
		num.Text(a)
		for _, e := range slices.Concat(ints, []int{3, 31, 32, 33, 255, 256, 257, 8191, 8192, 1 << 62, math.MinInt + 1}) {
			num.Pow(a, e)
		}
		for _, b := range l {
			num.Cmp(a, b)
			for _, f := range twos() {
				f(a, b)
			}
		}
	}
	for _, e := range ints {
		num.Of(e)
	}
	for c := range 256 {
		for _, s := range []string{string([]byte{byte(c)}), "-" + string([]byte{byte(c)}), "1" + string([]byte{byte(c)}), strings.Repeat(string([]byte{byte(c)}), 2467), strings.Repeat(string([]byte{byte(c)}), 5000)} {
			num.Parse(s)
		}
	}
}

// spare returns a copy of a Num whose digits are followed by memory that is not part of it, and all of this memory.
func spare(a api.Num) (api.Num, []uint32) {
	all := append(slices.Clone(a.D), 77, 78, 79)
	return api.Num{Neg: a.Neg, D: all[:len(a.D)]}, all
}

// TestMemory has results that share memory with arguments or with each other, arguments that are changed, and results that depend on what is behind an argument: R1, R3, R4.
func TestMemory(t *testing.T) {
	for name, f := range twos() {
		for _, a := range corners() {
			for _, b := range corners() {
				x, all := spare(a)
				y, more := spare(b)
				checkMemory(t, name, []api.Num{a, b}, [][]uint32{all, more}, func() []api.Num { return f(x, y) })
			}
		}
	}
	for _, a := range corners() {
		for _, e := range []int{0, 1, 2, 3, 5} {
			x, all := spare(a)
			checkMemory(t, "Pow", []api.Num{a}, [][]uint32{all}, func() []api.Num {
				p, _ := num.Pow(x, e)
				return []api.Num{p}
			})
		}
	}
}

// checkMemory calls f twice, and overwrites all that the first call returned.
func checkMemory(t *testing.T, name string, args []api.Num, memory [][]uint32, f func() []api.Num) {
	t.Helper()
	first := f()
	want := make([]api.Num, len(first))
	for k, a := range first {
		want[k] = api.Num{Neg: a.Neg, D: slices.Clone(a.D)}
	}
	for k := range first {
		d := first[k].D[:cap(first[k].D)]
		for i := range d {
			d[i] = 123
		}
		for j := k + 1; j < len(first); j++ {
			if !same(first[j], want[j]) {
				t.Fatalf("%s of %v: two results share memory", name, args)
			}
		}
	}
	for k, a := range args {
		if !slices.Equal(memory[k], append(slices.Clone(a.D), 77, 78, 79)) {
			t.Fatalf("%s of %v: an argument was changed, or shares memory with a result", name, args)
		}
	}
	for k, a := range f() {
		if !same(a, want[k]) {
			t.Fatalf("%s of %v: another result of the same call", name, args)
		}
	}
}

// TestNilAndEmpty has the two forms of 0: R1.
func TestNilAndEmpty(t *testing.T) {
	empty := api.Num{D: []uint32{}}
	for name, f := range twos() {
		for _, a := range []api.Num{n(), n(5), neg(5), full(3), full(256)} {
			if !slices.EqualFunc(f(a, api.Num{}), f(a, empty), same) || !slices.EqualFunc(f(api.Num{}, a), f(empty, a), same) {
				t.Errorf("%s of %v and 0", name, a)
			}
		}
	}
	if num.Cmp(empty, api.Num{}) != 0 || num.Text(empty) != "0" || !num.Right(empty) || num.Bits(empty) != 0 {
		t.Error("0 without digits that is not nil")
	}
}
