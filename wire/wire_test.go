package wire_test

import (
	"encoding/binary"
	"math"
	"math/rand"
	"slices"
	"strings"
	"testing"

	"equipoise/api"
	"equipoise/wire"
)

// TestExamplesOfFunctions has the chapter's table: P4.1, P4.2.
func TestExamplesOfFunctions(t *testing.T) {
	for _, c := range []struct{ name, got, want string }{
		{"Int of 0", wire.Int(0), str(0)},
		{"Int of -1", wire.Int(-1), str(1)},
		{"Int of 63", wire.Int(63), str(126)},
		{"Int of 64", wire.Int(64), str(128, 1)},
		{"Int of -65", wire.Int(-65), str(129, 1)},
		{"Text of ab", wire.Text("ab"), str(4, 97, 98)},
		{"Ints of 1, -2", wire.Ints([]int{1, -2}), str(4, 2, 3)},
		{"Num of 0", wire.Num(n()), str(0)},
		{"Num of -5", wire.Num(neg(5)), str(1, 10)},
		{"Num of 2^32", wire.Num(n(0, 1)), str(4, 0, 2)},
		{"Ratio of -1/2", wire.Ratio(over(neg(1), n(2))), str(1, 2, 2, 4)},
		{"Ratio of 2/4", wire.Ratio(over(n(2), n(4))), ""},
		{"Num with Neg and without digits", wire.Num(neg()), ""},
		{"Frac of 2/4", wire.Frac(api.Frac{N: 2, D: 4}), str(4, 8)},
	} {
		if c.got != c.want {
			t.Errorf("%s: %v; want %v", c.name, []byte(c.got), []byte(c.want))
		}
	}
}

// TestWrittenByHand has bytes that were found by hand, where they are easily wrong: P4.1, P4.2.
func TestWrittenByHand(t *testing.T) {
	greatest := strings.Repeat("\xff", 9) + "\x01" // 2^64 - 1
	for _, c := range []struct{ name, got, want string }{
		{"Int of -64", wire.Int(-64), str(127)},
		{"Int of 8191", wire.Int(8191), str(254, 127)},
		{"Int of 8192", wire.Int(8192), str(128, 128, 1)},
		{"Int of -8192", wire.Int(-8192), str(255, 127)},
		{"Int of -8193", wire.Int(-8193), str(129, 128, 1)},
		{"Int of the least int", wire.Int(math.MinInt), greatest},
		{"Int of the greatest int", wire.Int(math.MaxInt), "\xfe" + greatest[1:]},
		{"Text of nothing", wire.Text(""), str(0)},
		{"Text of 64 bytes", wire.Text(strings.Repeat("a", 64)), "\x80\x01" + strings.Repeat("a", 64)},
		{"Ints of nothing", wire.Ints(nil), str(0)},
		{"Ints of 0", wire.Ints([]int{0}), str(2, 0)},
		{"Texts of nothing", wire.Texts(nil), str(0)},
		{"Texts of an empty one", wire.Texts([]string{""}), str(2, 0)},
		{"Texts of a, an empty one, bc", wire.Texts([]string{"a", "", "bc"}), str(6, 2, 97, 0, 4, 98, 99)},
		{"Num of -2^32", wire.Num(neg(0, 1)), str(3, 0, 2)},
		{"Num of 2^32 - 1", wire.Num(n(top)), str(2, 254, 255, 255, 255, 31)},
		{"Num of 256 digits", wire.Num(full(256)), str(128, 4) + strings.Repeat(str(254, 255, 255, 255, 31), 256)},
		{"Num of 256 digits, negative", wire.Num(neg(full(256).D...)), str(255, 3) + strings.Repeat(str(254, 255, 255, 255, 31), 256)},
		{"Ratio of 0", wire.Ratio(over(n(), n(1))), str(0, 2, 2)},
		{"Ratio of the zero Ratio", wire.Ratio(api.Ratio{}), ""},
		{"Frac of the zero Frac", wire.Frac(api.Frac{}), str(0, 0)},
		{"Frac of -1/0", wire.Frac(api.Frac{N: -1}), str(1, 0)},
		{"Frac of the least ints", wire.Frac(api.Frac{N: math.MinInt, D: math.MinInt}), greatest + greatest},
	} {
		if c.got != c.want {
			t.Errorf("%s: %v; want %v", c.name, []byte(c.got), []byte(c.want))
		}
	}
}

// TestFunctions compares what is written with the model: P4.1, P4.2.
func TestFunctions(t *testing.T) {
	for k, kind := range kinds() {
		for _, x := range values()[k] {
			if got, want := kind.write(x), kind.model(x); got != want || got == "" {
				t.Errorf("%s of %v: %v; want %v", kind.name, x, []byte(got), []byte(want))
			}
		}
	}
	r := rand.New(rand.NewSource(1))
	for range 3000 {
		for k, x := range random(r) {
			if kind := kinds()[k]; kind.write(x) != kind.model(x) {
				t.Fatalf("%s of %v: %v; want %v", kind.name, x, []byte(kind.write(x)), []byte(kind.model(x)))
			}
		}
	}
}

// TestInt compares Int with a package of Go that has the same code: P4.1.
func TestInt(t *testing.T) {
	all := ints()
	for x := -70000; x < 70000; x++ {
		all = append(all, x)
	}
	for _, x := range all {
		if want := binary.AppendVarint(nil, int64(x)); wire.Int(x) != string(want) {
			t.Fatalf("Int of %d: %v; want %v", x, []byte(wire.Int(x)), want)
		}
	}
}

// TestWrongNums has Nums and Ratios that are not right: P4.2.
func TestWrongNums(t *testing.T) {
	for _, a := range wrongNums() {
		if s := wire.Num(a); s != "" {
			t.Errorf("Num of %v: %v", a, []byte(s))
		}
	}
	for _, r := range wrongRatios() {
		if s := wire.Ratio(r); s != "" {
			t.Errorf("Ratio of %v: %v", r, []byte(s))
		}
	}
}

// TestLists has the elements of lists written one by one: P4.1.
func TestLists(t *testing.T) {
	l, s := []int{5, -300, 1 << 40}, []string{"x", "", strings.Repeat("yz", 100)}
	if want := wire.Int(3) + wire.Int(5) + wire.Int(-300) + wire.Int(1<<40); wire.Ints(l) != want {
		t.Errorf("Ints: %v", []byte(wire.Ints(l)))
	}
	if want := wire.Int(3) + wire.Text(s[0]) + wire.Text(s[1]) + wire.Text(s[2]); wire.Texts(s) != want {
		t.Errorf("Texts: %v", []byte(wire.Texts(s)))
	}
	slices.Reverse(l)
	if want := wire.Int(3) + wire.Int(1<<40) + wire.Int(-300) + wire.Int(5); wire.Ints(l) != want {
		t.Errorf("Ints in the opposite order: %v", []byte(wire.Ints(l)))
	}
}
