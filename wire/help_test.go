package wire_test

import (
	"math"
	"math/big"
	"math/rand"
	"reflect"
	"slices"
	"strings"
	"testing"

	"equipoise/api"
	"equipoise/wire"
)

const top = 1<<32 - 1 // the greatest digit

// n returns a Num of these digits, the lowest one first.
func n(d ...uint32) api.Num { return api.Num{D: d} }

// neg returns a Num of these digits that is negative.
func neg(d ...uint32) api.Num { return api.Num{Neg: true, D: d} }

// full returns the Num of so many digits, all of which are the greatest ones.
func full(digits int) api.Num { return n(slices.Repeat([]uint32{top}, digits)...) }

// over returns a Ratio with these fields, whether it is right or not.
func over(n, d api.Num) api.Ratio { return api.Ratio{N: n, D: d} }

// str returns a string of these bytes.
func str(b ...byte) string { return string(b) }

// The model follows the words of the chapter, with math/big, and knows nothing of the package. It writes values, and reads them by trying whether what is written of a value is what it has read.

// code returns the code of n.
func code(n int) *big.Int {
	c := new(big.Int).Mul(big.NewInt(2), big.NewInt(int64(n)))
	if n < 0 {
		c.Neg(c)
		c.Sub(c, big.NewInt(1))
	}
	return c
}

// bytesOf returns the bytes of a code.
func bytesOf(c *big.Int) string {
	var b []byte
	rest, low := new(big.Int).Set(c), new(big.Int)
	for {
		rest.DivMod(rest, big.NewInt(128), low)
		if rest.Sign() == 0 {
			return string(append(b, byte(low.Int64())))
		}
		b = append(b, byte(low.Int64()+128))
	}
}

func intModel(n int) string { return bytesOf(code(n)) }

func textModel(s string) string { return intModel(len(s)) + s }

func intsModel(l []int) string {
	s := intModel(len(l))
	for _, x := range l {
		s += intModel(x)
	}
	return s
}

func textsModel(l []string) string {
	s := intModel(len(l))
	for _, x := range l {
		s += textModel(x)
	}
	return s
}

// rightNum reports whether a is right by the words of chapter 1.
func rightNum(a api.Num) bool {
	k := len(a.D)
	return k <= 256 && (k > 0 && a.D[k-1] > 0 || k == 0 && !a.Neg)
}

func numModel(a api.Num) string {
	if !rightNum(a) {
		return ""
	}
	sign := 1
	if a.Neg {
		sign = -1
	}
	s := intModel(sign * len(a.D))
	for _, d := range a.D {
		s += intModel(int(d))
	}
	return s
}

// value returns what a right Num stands for.
func value(a api.Num) *big.Int {
	v := new(big.Int)
	for _, d := range slices.Backward(a.D) {
		v.Lsh(v, 32)
		v.Add(v, big.NewInt(int64(d)))
	}
	if a.Neg {
		v.Neg(v)
	}
	return v
}

// rightRatio reports whether r is right by the words of chapter 3.
func rightRatio(r api.Ratio) bool {
	if !rightNum(r.N) || !rightNum(r.D) || value(r.D).Sign() <= 0 {
		return false
	}
	x := value(r.N)
	return new(big.Int).GCD(nil, nil, x.Abs(x), value(r.D)).Cmp(big.NewInt(1)) == 0
}

func ratioModel(r api.Ratio) string {
	if !rightRatio(r) {
		return ""
	}
	return numModel(r.N) + numModel(r.D)
}

func fracModel(f api.Frac) string { return intModel(f.N) + intModel(f.D) }

// loose reads what may be a value that was written, with any number of bytes in place of each Int; it fails by a panic.
type loose struct {
	s    string
	used int
}

func (l *loose) int() int {
	c := new(big.Int)
	for shift := uint(0); ; shift += 7 {
		b := l.s[l.used]
		l.used++
		c.Or(c, new(big.Int).Lsh(big.NewInt(int64(b&127)), shift))
		if b < 128 {
			break
		}
	}
	half := new(big.Int).Rsh(c, 1)
	if c.Bit(0) == 1 {
		half.Not(half)
	}
	if !half.IsInt64() {
		panic("beyond int")
	}
	return int(half.Int64())
}

// length reads a length, of which there cannot be more than bytes.
func (l *loose) length() int {
	n := l.int()
	if n < 0 || n > len(l.s) {
		panic("beyond the string")
	}
	return n
}

func (l *loose) text() string {
	n := l.length()
	l.used += n
	return l.s[l.used-n : l.used]
}

func (l *loose) ints() []int {
	list := make([]int, l.length())
	for k := range list {
		list[k] = l.int()
	}
	return list
}

func (l *loose) texts() []string {
	list := make([]string, l.length())
	for k := range list {
		list[k] = l.text()
	}
	return list
}

func (l *loose) num() api.Num {
	n := l.int()
	if n < -1000 || n > 1000 {
		panic("beyond a Num")
	}
	a := api.Num{Neg: n < 0}
	for range max(n, -n) {
		a.D = append(a.D, uint32(l.int()))
	}
	return a
}

func (l *loose) ratio() api.Ratio {
	x := l.num()
	return api.Ratio{N: x, D: l.num()}
}

func (l *loose) frac() api.Frac {
	x := l.int()
	return api.Frac{N: x, D: l.int()}
}

// kind is a pair of functions of the package, and their model.
type kind struct {
	name  string
	write func(x any) string
	read  func(r *wire.Reader) any
	model func(x any) string
	loose func(l *loose) any
}

// kindOf returns the kind of values of type T.
func kindOf[T any](name string, write func(T) string, read func(*wire.Reader) T, model func(T) string, slack func(*loose) T) kind {
	return kind{
		name:  name,
		write: func(x any) string { return write(x.(T)) },
		read:  func(r *wire.Reader) any { return read(r) },
		model: func(x any) string { return model(x.(T)) },
		loose: func(l *loose) any { return slack(l) },
	}
}

// kinds returns all kinds.
func kinds() []kind {
	return []kind{
		kindOf("Int", wire.Int, (*wire.Reader).Int, intModel, (*loose).int),
		kindOf("Text", wire.Text, (*wire.Reader).Text, textModel, (*loose).text),
		kindOf("Ints", wire.Ints, (*wire.Reader).Ints, intsModel, (*loose).ints),
		kindOf("Texts", wire.Texts, (*wire.Reader).Texts, textsModel, (*loose).texts),
		kindOf("Num", wire.Num, (*wire.Reader).Num, numModel, (*loose).num),
		kindOf("Ratio", wire.Ratio, (*wire.Reader).Ratio, ratioModel, (*loose).ratio),
		kindOf("Frac", wire.Frac, (*wire.Reader).Frac, fracModel, (*loose).frac),
	}
}

// expect returns the value that a beginning of s stands for, and the length of this beginning; a zero value and -1 if there is none.
func (k kind) expect(s string) (x any, used int) {
	l := &loose{s: s}
	defer func() {
		if recover() != nil || k.model(x) != s[:l.used] || l.used == 0 {
			x, used = k.zero(), -1
		}
	}()
	x = k.loose(l)
	return x, l.used
}

// zero returns a zero value of the kind.
func (k kind) zero() any { return k.read(nil) }

// same reports whether two values are equal; nil slices are equal to empty ones.
func same(x, y any) bool {
	switch a := x.(type) {
	case []int:
		return slices.Equal(a, y.([]int))
	case []string:
		return slices.Equal(a, y.([]string))
	case api.Num:
		return sameNum(a, y.(api.Num))
	case api.Ratio:
		return sameNum(a.N, y.(api.Ratio).N) && sameNum(a.D, y.(api.Ratio).D)
	}
	return reflect.DeepEqual(x, y)
}

// sameNum reports whether two Nums have equal fields.
func sameNum(a, b api.Num) bool { return a.Neg == b.Neg && slices.Equal(a.D, b.D) }

// isZero reports whether x is a zero value, or empty.
func isZero(x any) bool {
	switch a := x.(type) {
	case int:
		return a == 0
	case string:
		return a == ""
	case []int:
		return len(a) == 0
	case []string:
		return len(a) == 0
	case api.Num:
		return !a.Neg && len(a.D) == 0
	case api.Ratio:
		return isZero(a.N) && isZero(a.D)
	case api.Frac:
		return a == api.Frac{}
	}
	return false
}

// checkRead reads a value of s, and ends the test unless this is what the model reads.
func checkRead(t *testing.T, k kind, s string) {
	t.Helper()
	r := wire.New(s)
	got := k.read(r)
	want, used := k.expect(s)
	if used < 0 {
		if !isZero(got) || !r.Bad() || r.Left() != 0 {
			t.Fatalf("%s of %v: %v, left %d, bad %v; want a bad reader", k.name, []byte(s), got, r.Left(), r.Bad())
		}
		return
	}
	if !same(got, want) || r.Bad() || r.Left() != len(s)-used {
		t.Fatalf("%s of %v: %v, left %d, bad %v; want %v, left %d", k.name, []byte(s), got, r.Left(), r.Bad(), want, len(s)-used)
	}
}

// ints returns ints of all lengths, with those at the limits of one byte, of each further group of 7 binary digits, and of int itself.
func ints() []int {
	l := []int{0, -1, 1, 2, -2, math.MaxInt, math.MinInt, math.MaxInt - 1, math.MinInt + 1}
	for bits := range 63 {
		for _, x := range []int{1<<bits - 1, 1 << bits, 1<<bits + 1} {
			l = append(l, x, -x)
		}
	}
	slices.Sort(l)
	return slices.Compact(l)
}

// values returns values of each kind, in the order of kinds: small ones and those at the limits.
func values() [][]any {
	long := strings.Repeat("x", 20000)
	return [][]any{
		list(ints()),
		list([]string{"", "a", "ab", "\x00", "\xff\xfe", "é", strings.Repeat("y", 63), strings.Repeat("y", 64), strings.Repeat("\x80", 8191), strings.Repeat("z", 8192), long}),
		list([][]int{nil, {}, {0}, {1, -2}, {0, 0}, {-1}, {63, 64, -64, -65}, ints(), make([]int, 63), make([]int, 64), make([]int, 9000), {math.MinInt, math.MaxInt}}),
		list([][]string{nil, {}, {""}, {"", ""}, {"a"}, {"ab", "", "c"}, {"a", "b", "c"}, {long, "", long}, make([]string, 63), make([]string, 64), make([]string, 9000), {"\x80\x00", "\x00"}}),
		list([]api.Num{{}, n(1), n(5), neg(5), n(0, 1), neg(0, 1), n(31), n(32), n(63), n(64), n(1<<13 - 1), n(1 << 13), n(top), neg(top), n(top, top), n(0, 0, 0, 1), full(63), full(64), full(256), neg(full(256).D...), n(append(make([]uint32, 255), 1)...), neg(append(make([]uint32, 255), 1)...), full(255)}),
		list([]api.Ratio{over(n(), n(1)), over(n(1), n(1)), over(neg(1), n(2)), over(n(1), n(2)), over(n(2), n(1)), over(neg(7), n(5)), over(full(256), n(1)), over(n(1), full(256)), over(neg(1), full(256)), over(neg(full(256).D...), n(2)), over(full(256), n(append(make([]uint32, 255), 1)...)), over(n(0, 0, 1), full(64))}),
		list([]api.Frac{{}, {N: 1, D: 2}, {N: 2, D: 4}, {N: -1, D: 1}, {N: 1, D: -1}, {N: 1 << 20, D: 1<<20 - 1}, {N: -1 << 20, D: 1 << 20}, {N: 1<<20 + 1, D: 1}, {N: math.MinInt, D: math.MaxInt}, {N: math.MaxInt, D: math.MinInt}, {N: 0, D: 5}, {N: 5}}),
	}
}

// list returns the elements of a list as values of any type.
func list[T any](l []T) []any {
	var all []any
	for _, x := range l {
		all = append(all, x)
	}
	return all
}

// wrongNums returns Nums that are not right.
func wrongNums() []api.Num {
	return []api.Num{
		neg(), n(0), neg(0), n(1, 0), neg(1, 0), n(0, 0), n(top, 0), full(257), neg(full(257).D...), n(append(make([]uint32, 256), 1)...), n(make([]uint32, 256)...), n(append(slices.Clone(full(255).D), 0)...), full(5000),
	}
}

// wrongRatios returns Ratios that are not right.
func wrongRatios() []api.Ratio {
	l := []api.Ratio{
		{}, over(n(1), n()), over(n(), n(2)), over(n(2), n(4)), over(n(2), n(2)), over(neg(2), n(4)), over(n(4), n(2)), over(n(1), neg(1)), over(neg(1), neg(2)), over(n(), neg(1)), over(full(256), full(256)), over(full(256), full(128)), over(full(2), n(top)), over(n(0, 1), n(2)),
	}
	for _, a := range wrongNums() {
		l = append(l, over(a, n(1)), over(n(1), a), over(a, a), over(n(), a))
	}
	return l
}

// random returns a random value of each kind that is right.
func random(r *rand.Rand) []any {
	a, b := randomNum(r), randomNum(r)
	b.Neg = false
	q := over(a, b)
	for !rightRatio(q) {
		q = over(n(uint32(r.Intn(9))), n(uint32(1+r.Intn(9))))
	}
	var l []int
	var s []string
	for range r.Intn(6) {
		l, s = append(l, randomInt(r)), append(s, randomText(r))
	}
	return []any{randomInt(r), randomText(r), l, s, a, q, api.Frac{N: randomInt(r), D: randomInt(r)}}
}

// randomInt returns an int of a random length.
func randomInt(r *rand.Rand) int { return int(r.Uint64()) >> r.Intn(64) }

// randomText returns a random string.
func randomText(r *rand.Rand) string {
	b := make([]byte, r.Intn(1+r.Intn(70)))
	r.Read(b)
	return string(b)
}

// randomNum returns a random right Num.
func randomNum(r *rand.Rand) api.Num {
	d := make([]uint32, r.Intn(6))
	for k := range d {
		d[k] = 1 + r.Uint32()>>r.Intn(32)%top
	}
	return api.Num{Neg: len(d) > 0 && r.Intn(2) == 0, D: d}
}
