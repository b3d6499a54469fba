package wire_test

import (
	"math"
	"math/rand"
	"reflect"
	"slices"
	"strings"
	"testing"

	"equipoise/api"
	"equipoise/wire"
)

// TestEndsWithoutPanic calls everything with all sorts of arguments: P1.
func TestEndsWithoutPanic(t *testing.T) {
	for _, a := range append(wrongNums(), full(70000)) {
		wire.Num(a)
		wire.Ratio(api.Ratio{N: a, D: a})
		wire.Ratio(api.Ratio{N: a})
		wire.Ratio(api.Ratio{D: a})
	}
	r := rand.New(rand.NewSource(5))
	for _, x := range append(ints(), 1<<31-1, 1<<31) {
		for _, behind := range []string{"", "\x00", strings.Repeat("\x00", 1000), strings.Repeat("\x02", 1000), strings.Repeat("\xff", 1000), randomText(r)} {
			for _, kind := range kinds() {
				kind.read(wire.New(wire.Int(x) + behind))
				kind.read(wire.New(wire.Int(2) + wire.Int(x) + behind))
			}
		}
	}
}

// TestNoMemoryForWhatIsNotThere has lists with a length that is much greater than what is left: P1.
func TestNoMemoryForWhatIsNotThere(t *testing.T) {
	for _, x := range []int{math.MaxInt, 1 << 62, 1 << 40, 1 << 31, 1 << 25} {
		s := wire.Int(x) + strings.Repeat("\x00", 1000)
		got := testing.AllocsPerRun(10, func() {
			wire.New(s).Ints()
			wire.New(s).Texts()
			wire.New(s).Text()
			wire.New(s).Num()
		})
		if got > 200 {
			t.Errorf("%v allocations", got)
		}
	}
}

// TestNilAndEmpty has the two forms of an empty list: R1.
func TestNilAndEmpty(t *testing.T) {
	none := api.Num{D: []uint32{}}
	for _, c := range []struct{ name, got, want string }{
		{"Ints", wire.Ints([]int{}), wire.Ints(nil)},
		{"Texts", wire.Texts([]string{}), wire.Texts(nil)},
		{"Num", wire.Num(none), wire.Num(api.Num{})},
		{"Num with Neg", wire.Num(api.Num{Neg: true, D: none.D}), ""},
		{"Ratio", wire.Ratio(over(none, n(1))), wire.Ratio(over(n(), n(1)))},
		{"Ratio without D", wire.Ratio(over(none, none)), ""},
	} {
		if c.got != c.want {
			t.Errorf("%s: %v; want %v", c.name, []byte(c.got), []byte(c.want))
		}
	}
}

// TestArguments has arguments with more memory behind them, which is neither read nor written: R3, R4.
func TestArguments(t *testing.T) {
	l, s, d := []int{1, 2, 3, 4}, []string{"a", "b", "c", "d"}, []uint32{1, 2, 3, 4}
	a := api.Num{D: d[:2]}
	calls := map[string][2]string{
		"Ints":  {wire.Ints(l[:2]), wire.Ints([]int{1, 2})},
		"Texts": {wire.Texts(s[:2]), wire.Texts([]string{"a", "b"})},
		"Num":   {wire.Num(a), wire.Num(n(1, 2))},
		"Ratio": {wire.Ratio(over(a, n(1))), wire.Ratio(over(n(1, 2), n(1)))},
	}
	for name, c := range calls {
		if c[0] != c[1] {
			t.Errorf("%s: %v; want %v", name, []byte(c[0]), []byte(c[1]))
		}
	}
	if !slices.Equal(l, []int{1, 2, 3, 4}) || !slices.Equal(s, []string{"a", "b", "c", "d"}) || !slices.Equal(d, []uint32{1, 2, 3, 4}) {
		t.Error("an argument was changed")
	}
}

// TestResultsShareNothing has lists that were read, and are overwritten: R3.
func TestResultsShareNothing(t *testing.T) {
	s := strings.Repeat(wire.Ints([]int{1, 2, 3}), 2) + strings.Repeat(wire.Texts([]string{"ab", "c"}), 2) + strings.Repeat(wire.Num(n(7, 8, 9)), 2) + strings.Repeat(wire.Ratio(over(n(5), n(5, 1))), 2)
	r := wire.New(s)
	clear(r.Ints())
	if l := r.Ints(); !slices.Equal(l, []int{1, 2, 3}) {
		t.Errorf("Ints: %v", l)
	}
	clear(r.Texts())
	if l := r.Texts(); !slices.Equal(l, []string{"ab", "c"}) {
		t.Errorf("Texts: %v", l)
	}
	clear(r.Num().D)
	if a := r.Num(); !sameNum(a, n(7, 8, 9)) {
		t.Errorf("Num: %v", a)
	}
	q := r.Ratio()
	clear(q.N.D)
	if !sameNum(q.D, n(5, 1)) {
		t.Errorf("D of the Ratio whose N was overwritten: %v", q.D)
	}
	clear(q.D.D)
	if q = r.Ratio(); !sameNum(q.N, n(5)) || !sameNum(q.D, n(5, 1)) {
		t.Errorf("Ratio: %v", q)
	}
}

// TestTwoReaders has two readers of one string, by turns: each has its own place. R3, R4.
func TestTwoReaders(t *testing.T) {
	s := wire.Int(1) + wire.Int(2) + wire.Int(3)
	a, b := wire.New(s), wire.New(s)
	if a.Int() != 1 || a.Int() != 2 || b.Int() != 1 || a.Left() != 1 || b.Left() != 2 {
		t.Error("two readers of one string")
	}
	if a.Text(); !a.Bad() || b.Bad() || b.Int() != 2 {
		t.Error("a bad reader beside another one")
	}
}

// TestQuestionsChangeNothing has Left and Bad many times: P4.5, R4.
func TestQuestionsChangeNothing(t *testing.T) {
	r := wire.New(wire.Int(300) + wire.Text("x"))
	for range 3 {
		if r.Left() != 4 || r.Bad() {
			t.Fatalf("left %d, bad %v", r.Left(), r.Bad())
		}
	}
	if r.Int() != 300 || r.Text() != "x" || r.Left() != 0 || r.Bad() {
		t.Error("reading after Left and Bad")
	}
}

// TestSameCalls has the same calls again: R4.
func TestSameCalls(t *testing.T) {
	for k, kind := range kinds() {
		for _, x := range values()[k] {
			first := kind.write(x)
			if second := kind.write(x); first != second {
				t.Fatalf("%s of %v: %v and %v", kind.name, x, []byte(first), []byte(second))
			}
			if y, z := kind.read(wire.New(first)), kind.read(wire.New(first)); !reflect.DeepEqual(y, z) {
				t.Fatalf("%s: %v and %v", kind.name, y, z)
			}
		}
	}
}
