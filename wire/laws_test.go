package wire_test

import (
	"math/rand"
	"slices"
	"strings"
	"testing"

	"equipoise/wire"
)

// TestBeginnings has no serialization that is a proper beginning of another one by the same function, and different ones of different values: P4.6.
func TestBeginnings(t *testing.T) {
	r := rand.New(rand.NewSource(3))
	all := values()
	for range 200 {
		for k, x := range random(r) {
			all[k] = append(all[k], x)
		}
	}
	for k, kind := range kinds() {
		written := map[string]any{}
		for _, x := range all[k] {
			s := kind.write(x)
			if y, found := written[s]; found && !same(x, y) {
				t.Errorf("%s of %v and of %v: equal", kind.name, x, y)
			}
			written[s] = x
		}
		var l []string
		for s := range written {
			l = append(l, s)
		}
		slices.Sort(l) // what begins with a string comes right behind it
		for at := 1; at < len(l); at++ {
			if strings.HasPrefix(l[at], l[at-1]) {
				t.Errorf("%s: %v begins with %v", kind.name, []byte(l[at]), []byte(l[at-1]))
			}
		}
	}
}

// TestOneAfterTheOther has values of all kinds that are written one after the other: P4.6.
func TestOneAfterTheOther(t *testing.T) {
	r := rand.New(rand.NewSource(4))
	all := kinds()
	for range 300 {
		var order []int
		var written []any
		var b strings.Builder
		for range r.Intn(30) {
			k := r.Intn(len(all))
			x := random(r)[k]
			order, written = append(order, k), append(written, x)
			b.WriteString(all[k].write(x))
		}
		reader := wire.New(b.String())
		for at, k := range order {
			if x := all[k].read(reader); !same(x, written[at]) || reader.Bad() {
				t.Fatalf("%s at %d of %v: %v; want %v", all[k].name, at, order, x, written[at])
			}
		}
		if reader.Left() != 0 {
			t.Fatalf("%d bytes are left", reader.Left())
		}
	}
}

// TestLengthOfInt has the numbers of bytes: P4.7.
func TestLengthOfInt(t *testing.T) {
	for _, x := range ints() {
		got := len(wire.Int(x))
		if (got == 1) != (x >= -64 && x <= 63) || got < 1 || got > 10 {
			t.Errorf("Int of %d has %d bytes", x, got)
		}
	}
	for bytes, limit := 1, 64; bytes < 9; bytes, limit = bytes+1, limit<<7 {
		for x, want := range map[int]int{limit - 1: bytes, -limit: bytes, limit: bytes + 1, -limit - 1: bytes + 1} {
			if got := len(wire.Int(x)); got != want {
				t.Errorf("Int of %d has %d bytes; want %d", x, got, want)
			}
		}
	}
}

// TestWithoutLastByte has serializations without their last byte: P4.7.
func TestWithoutLastByte(t *testing.T) {
	for k, kind := range kinds() {
		for _, x := range values()[k] {
			s := kind.write(x)
			r := wire.New(s[:len(s)-1])
			if got := kind.read(r); !isZero(got) || !r.Bad() || r.Left() != 0 {
				t.Errorf("%s of %v: %v, bad %v, left %d", kind.name, x, got, r.Bad(), r.Left())
			}
		}
	}
}

// TestLongerInt has an Int with a byte too many, in place of each Int of a serialization: P4.7.
func TestLongerInt(t *testing.T) {
	long := func(x int) string {
		s := wire.Int(x)
		return s[:len(s)-1] + str(s[len(s)-1]|128, 0)
	}
	for _, x := range ints() {
		bad(t, 0, long(x))
		bad(t, 2, wire.Int(2)+wire.Int(5)+long(x))
		bad(t, 6, wire.Int(x)+long(x))
		bad(t, 6, long(x)+wire.Int(x))
	}
	bad(t, 1, long(2)+"ab")
	bad(t, 2, long(2)+wire.Int(5)+wire.Int(6))
	bad(t, 3, long(1)+wire.Text("ab"))
	bad(t, 3, wire.Int(1)+long(2)+"ab")
	bad(t, 4, long(0))
	bad(t, 4, long(1)+wire.Int(5))
	bad(t, 4, wire.Int(-1)+long(5))
	bad(t, 5, wire.Int(1)+long(5)+wire.Int(1)+wire.Int(2))
	bad(t, 5, wire.Int(1)+wire.Int(5)+long(1)+wire.Int(2))
	bad(t, 5, wire.Int(1)+wire.Int(5)+wire.Int(1)+long(2))
}

// bad ends the test unless a reader of s becomes bad by the method of a kind.
func bad(t *testing.T, k int, s string) {
	t.Helper()
	r := wire.New(s)
	if x := kinds()[k].read(r); !isZero(x) || !r.Bad() || r.Left() != 0 {
		t.Fatalf("%s of %v: %v, bad %v, left %d", kinds()[k].name, []byte(s), x, r.Bad(), r.Left())
	}
}
