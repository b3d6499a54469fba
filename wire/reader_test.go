package wire_test

import (
	"math"
	"math/rand"
	"slices"
	"strings"
	"testing"

	"equipoise/api"
	"equipoise/wire"
)

// TestExamplesOfReader has the chapter's table: P4.3 to P4.5.
func TestExamplesOfReader(t *testing.T) {
	r := wire.New(str(4, 2, 3, 6))
	if l := r.Ints(); !slices.Equal(l, []int{1, -2}) || r.Left() != 1 || r.Bad() {
		t.Errorf("Ints: %v, left %d, bad %v", l, r.Left(), r.Bad())
	}
	if x := r.Int(); x != 3 || r.Left() != 0 || r.Bad() {
		t.Errorf("Int: %d, left %d, bad %v", x, r.Left(), r.Bad())
	}
	if x := r.Int(); x != 0 || !r.Bad() {
		t.Errorf("Int of nothing: %d, bad %v", x, r.Bad())
	}
	r = wire.New(str(128, 0))
	if x := r.Int(); x != 0 || !r.Bad() {
		t.Errorf("Int of 128 0: %d, bad %v", x, r.Bad())
	}
	r = wire.New(str(2, 0))
	if a := r.Num(); !isZero(a) || !r.Bad() {
		t.Errorf("Num of 2 0: %v, bad %v", a, r.Bad())
	}
}

// TestReads has one value of each kind, and more behind it: P4.3 to P4.5.
func TestReads(t *testing.T) {
	for k, kind := range kinds() {
		for _, x := range values()[k] {
			for _, behind := range []string{"", "\x00", "\x80", "\xff\xff", "more of it"} {
				s := kind.model(x)
				r := wire.New(s + behind)
				if r.Left() != len(s+behind) || r.Bad() {
					t.Fatalf("%s of %v: left %d, bad %v before", kind.name, x, r.Left(), r.Bad())
				}
				if got := kind.read(r); !same(got, x) || r.Left() != len(behind) || r.Bad() {
					t.Fatalf("%s of %v: %v, left %d, bad %v", kind.name, x, got, r.Left(), r.Bad())
				}
			}
		}
	}
}

// refused is what makes a reader bad.
type refused struct {
	name string
	kind int
	s    string
}

// allRefused returns strings for each way in which a method can make a reader bad.
func allRefused() []refused {
	const aInt, aText, aInts, aTexts, aNum, aRatio, aFrac = 0, 1, 2, 3, 4, 5, 6
	nines := strings.Repeat("\xff", 9)
	digit := str(254, 255, 255, 255, 31) // 2^32 - 1
	return []refused{
		{"nothing", aInt, ""},
		{"no last byte", aInt, str(128)},
		{"no last byte", aInt, nines},
		{"no last byte", aInt, nines + "\xff"},
		{"a byte too many", aInt, str(128, 0)},
		{"a byte too many", aInt, str(254, 0)},
		{"bytes too many", aInt, str(129, 128, 0)},
		{"bytes too many", aInt, str(128, 128, 128, 128, 128, 128, 128, 128, 128, 0)},
		{"a byte too many, behind the tenth", aInt, nines + "\x81\x00"},
		{"2^64", aInt, strings.Repeat("\x80", 9) + "\x02"},
		{"2^64 + 1", aInt, "\x81" + strings.Repeat("\x80", 8) + "\x02"},
		{"2^65 - 1", aInt, nines + "\x03"},
		{"2^70 - 1", aInt, nines + "\x7f"},
		{"2^70", aInt, strings.Repeat("\x80", 10) + "\x01"},
		{"11 bytes", aInt, nines + "\xff\x01"},
		{"2^77", aInt, strings.Repeat("\x80", 11) + "\x01"},
		{"the length -1", aText, "\x01abc"},
		{"the length -3", aText, "\x05abcdef"},
		{"the length 3, of 2", aText, "\x06ab"},
		{"the length 1, of 0", aText, "\x02"},
		{"the length of the greatest int", aText, wire.Int(math.MaxInt) + "abc"},
		{"the length of the least int", aText, wire.Int(math.MinInt) + "abc"},
		{"a length with a byte too many", aText, str(132, 0, 97, 98)},
		{"nothing", aText, ""},
		{"a length without its last byte", aText, str(128)},
		{"the length -1", aInts, str(1, 2)},
		{"the length 2, of 1", aInts, str(4, 2)},
		{"the length 1, of 0", aInts, str(2)},
		{"an element without its last byte", aInts, str(4, 2, 128)},
		{"an element with a byte too many", aInts, str(4, 130, 0, 2)},
		{"an element that is too great", aInts, "\x04\x02" + nines + "\x02"},
		{"the length of the greatest int", aInts, wire.Int(math.MaxInt) + "abc"},
		{"the length of the least int", aInts, wire.Int(math.MinInt) + "abc"},
		{"nothing", aInts, ""},
		{"the length -1", aTexts, str(1, 2)},
		{"the length 2, of 1", aTexts, "\x04\x02a"},
		{"the length 1, of 0", aTexts, str(2)},
		{"an element of the length -1", aTexts, "\x04\x02a\x01"},
		{"an element that is too short", aTexts, "\x04\x02a\x04b"},
		{"an element with a byte too many", aTexts, "\x02\x82\x00a"},
		{"the length of the greatest int", aTexts, wire.Int(math.MaxInt) + "\x00\x00"},
		{"nothing", aTexts, ""},
		{"a last digit that is 0", aNum, str(2, 0)},
		{"a last digit that is 0, negative", aNum, str(1, 0)},
		{"a last of two digits that is 0", aNum, str(4, 2, 0)},
		{"a digit that is -1", aNum, str(2, 1)},
		{"a digit that is -1, and another", aNum, str(4, 1, 2)},
		{"a digit that is 2^32", aNum, str(2, 128, 128, 128, 128, 32)},
		{"a first digit that is 2^32", aNum, str(4, 128, 128, 128, 128, 32, 2)},
		{"a first digit that is -2^32", aNum, str(4) + wire.Int(-1<<32) + str(2)},
		{"a digit that is 2^32 + 1", aNum, str(2, 130, 128, 128, 128, 32)},
		{"a digit that is -2^32 + 1", aNum, str(2) + wire.Int(-1<<32+1)},
		{"a digit that is the least int", aNum, str(2) + wire.Int(math.MinInt)},
		{"a digit that is the greatest int", aNum, str(2) + wire.Int(math.MaxInt)},
		{"257 digits", aNum, wire.Int(257) + strings.Repeat(digit, 257)},
		{"257 digits, negative", aNum, wire.Int(-257) + strings.Repeat(digit, 257)},
		{"the number of digits is the greatest int", aNum, wire.Int(math.MaxInt) + digit},
		{"the number of digits is the least int", aNum, wire.Int(math.MinInt) + digit},
		{"the number of digits is the least int, and nothing", aNum, wire.Int(math.MinInt)},
		{"a digit too few", aNum, str(4, 2)},
		{"a digit without its last byte", aNum, str(2, 130)},
		{"a digit with a byte too many", aNum, str(2, 130, 0)},
		{"nothing", aNum, ""},
		{"2/4", aRatio, str(2, 4, 2, 8)},
		{"-2/4", aRatio, str(1, 4, 2, 8)},
		{"2/2", aRatio, str(2, 4, 2, 4)},
		{"0/2", aRatio, str(0, 2, 4)},
		{"0/0", aRatio, str(0, 0)},
		{"1/0", aRatio, str(2, 2, 0)},
		{"1/-2", aRatio, str(2, 2, 1, 4)},
		{"-1/-2", aRatio, str(1, 2, 1, 4)},
		{"0/-1", aRatio, str(0, 1, 2)},
		{"an N that is not right", aRatio, str(2, 0, 2, 2)},
		{"a D that is not right", aRatio, str(2, 2, 4, 2, 0)},
		{"an N of 257 digits", aRatio, wire.Int(257) + strings.Repeat(digit, 257) + str(2, 2)},
		{"a D of 257 digits", aRatio, str(2, 2) + wire.Int(257) + strings.Repeat(digit, 257)},
		{"no D", aRatio, str(2, 2)},
		{"nothing", aRatio, ""},
		{"no D", aFrac, str(2)},
		{"a D without its last byte", aFrac, str(2, 128)},
		{"a D with a byte too many", aFrac, str(2, 132, 0)},
		{"an N with a byte too many", aFrac, str(132, 0, 2)},
		{"a D that is too great", aFrac, "\x02" + nines + "\x02"},
		{"nothing", aFrac, ""},
	}
}

// TestBadReader has every kind of string that makes a reader bad: alone, before other values, and behind them. It stays bad: P4.3 to P4.5.
func TestBadReader(t *testing.T) {
	all := kinds()
	for _, c := range allRefused() {
		kind := all[c.kind]
		if _, used := kind.expect(c.s); used >= 0 {
			t.Errorf("%s of %s: the model reads it", kind.name, c.name)
		}
		for _, before := range []string{"", str(7), strings.Repeat("\x02", 300)} {
			r := wire.New(before + c.s)
			for range len(before) {
				r.Int()
			}
			if r.Bad() || r.Left() != len(c.s) {
				t.Fatalf("%s of %s: bad before", kind.name, c.name)
			}
			if x := kind.read(r); !isZero(x) {
				t.Errorf("%s of %s: %v", kind.name, c.name, x)
			}
			stays(t, r)
		}
	}
}

// stays ends the test unless a reader is bad and stays bad.
func stays(t *testing.T, r *wire.Reader) {
	t.Helper()
	for range 2 {
		for _, kind := range kinds() {
			if !r.Bad() || r.Left() != 0 {
				t.Fatalf("bad %v, left %d; want a bad reader", r.Bad(), r.Left())
			}
			if x := kind.read(r); !isZero(x) {
				t.Fatalf("%s of a bad reader: %v", kind.name, x)
			}
		}
	}
}

// TestBadWithMoreLeft has a value that cannot be read, before others that could: P4.5.
func TestBadWithMoreLeft(t *testing.T) {
	for _, c := range []struct {
		kind int
		s    string
	}{
		{0, str(128, 0)}, {0, strings.Repeat("\xff", 9) + "\x02"}, {1, str(1)}, {2, str(1)}, {2, str(2, 128, 0)}, {3, str(1)}, {3, str(2, 1)}, {4, str(2, 0)}, {4, str(2, 1)}, {5, str(2, 4, 2, 8)}, {5, str(2, 2, 0)}, {6, str(2, 128, 0)}, {6, str(128, 0)},
	} {
		r := wire.New(c.s + strings.Repeat(str(0, 0, 2, 2), 100))
		if x := kinds()[c.kind].read(r); !isZero(x) {
			t.Errorf("%s of %v: %v", kinds()[c.kind].name, []byte(c.s), x)
		}
		stays(t, r)
	}
}

// TestNilReader has a reader that is nil: P4.5.
func TestNilReader(t *testing.T) {
	var r *wire.Reader
	stays(t, r)
	if r != nil {
		t.Error("it was changed")
	}
}

// TestZeroReader has a zero Reader, which is like New of the empty string: P4.3, P4.5.
func TestZeroReader(t *testing.T) {
	for _, kind := range kinds() {
		var zero wire.Reader
		for _, r := range []*wire.Reader{&zero, new(wire.Reader), wire.New("")} {
			if r.Bad() || r.Left() != 0 {
				t.Errorf("bad %v, left %d", r.Bad(), r.Left())
			}
			if x := kind.read(r); !isZero(x) {
				t.Errorf("%s: %v", kind.name, x)
			}
			stays(t, r)
		}
	}
}

// TestShortStrings has all strings of at most 2 bytes, and many longer ones, for each kind: P4.3 to P4.5.
func TestShortStrings(t *testing.T) {
	for _, kind := range kinds() {
		checkRead(t, kind, "")
		for x := range 256 {
			checkRead(t, kind, str(byte(x)))
			for y := range 256 {
				checkRead(t, kind, str(byte(x), byte(y)))
			}
		}
	}
	some := []byte{0, 1, 2, 3, 4, 8, 127, 128, 130, 255}
	for x := range 100000 {
		s := str(some[x%10], some[x/10%10], some[x/100%10], some[x/1000%10], some[x/10000])
		for _, kind := range kinds() {
			checkRead(t, kind, s)
		}
	}
}

// TestChangedStrings has random values that are written, and strings that are nearly so: P4.3 to P4.5.
func TestChangedStrings(t *testing.T) {
	r := rand.New(rand.NewSource(2))
	for range 3000 {
		for k, x := range random(r) {
			kind := kinds()[k]
			s := kind.model(x)
			at := r.Intn(len(s))
			checkRead(t, kind, s+randomText(r))
			checkRead(t, kind, s[:at])
			checkRead(t, kind, s[at:])
			checkRead(t, kind, s[:at]+str(byte(r.Intn(256)))+s[at+1:])
			checkRead(t, kind, s[:at]+str(s[at]^byte(1<<r.Intn(8)))+s[at+1:])
			checkRead(t, kind, s[:at]+str(s[at]|128, 0)+s[at+1:])
			checkRead(t, kind, s[:at]+str(byte(r.Intn(256)))+s[at:])
			checkRead(t, kind, randomText(r))
		}
	}
}

// TestEveryFracOfAReader has Fracs that do not fit: P4.4.
func TestEveryFracOfAReader(t *testing.T) {
	for _, f := range []api.Frac{{}, {N: 2, D: 4}, {N: 1}, {N: 1, D: -1}, {N: 1 << 50, D: 1 << 51}, {N: math.MinInt, D: math.MinInt}} {
		r := wire.New(wire.Frac(f))
		if got := r.Frac(); got != f || r.Bad() || r.Left() != 0 {
			t.Errorf("%v: %v, bad %v, left %d", f, got, r.Bad(), r.Left())
		}
	}
}
