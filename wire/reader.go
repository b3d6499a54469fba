package wire

import (
	"equipoise/api"
	"equipoise/num"
	"equipoise/ratio"
)

// Reader reads a string. Each value has at least one byte, so that a bad reader, of which nothing is left, reads no more.
type Reader struct {
	left string
	bad  bool
}

// New returns a reader of a string.
func New(s string) *Reader { return &Reader{left: s} }

// Int reads an int.
func (r *Reader) Int() int {
	if r == nil {
		return 0
	}
	c, n := firstCode(r.left)
	if n == 0 {
		r.fail()
		return 0
	}
	r.left = r.left[n:]
	return decoded(c)
}

// Text reads a string.
func (r *Reader) Text() string {
	n := r.Int()
	if n < 0 || n > r.Left() || r.Bad() {
		r.fail()
		return ""
	}
	s := r.left[:n]
	r.left = r.left[n:]
	return s
}

// Ints reads a list of ints.
func (r *Reader) Ints() []int { return list(r, r.Int) }

// Texts reads a list of strings.
func (r *Reader) Texts() []string { return list(r, r.Text) }

// Num reads a right Num.
func (r *Reader) Num() api.Num {
	n := r.Int()
	if n < -api.MaxDigits || n > api.MaxDigits { // no right Num has so many, and reading them would be in vain
		r.fail()
		return api.Num{}
	}
	a := api.Num{Neg: n < 0, D: several(r, max(n, -n), r.digit)}
	if !num.Right(a) {
		r.fail()
	}
	if r.Bad() {
		return api.Num{}
	}
	return a
}

// Ratio reads a right Ratio.
func (r *Reader) Ratio() api.Ratio {
	n, d := r.Num(), r.Num()
	if !ratio.Right(api.Ratio{N: n, D: d}) {
		r.fail()
		return api.Ratio{}
	}
	return api.Ratio{N: n, D: d}
}

// Frac reads any Frac.
func (r *Reader) Frac() api.Frac {
	n, d := r.Int(), r.Int()
	if r.Bad() {
		return api.Frac{}
	}
	return api.Frac{N: n, D: d}
}

// Left returns how many bytes are left.
func (r *Reader) Left() int {
	if r == nil {
		return 0
	}
	return len(r.left)
}

// Bad reports whether something could not be read, or r is nil.
func (r *Reader) Bad() bool { return r == nil || r.bad }

// fail makes the reader bad.
func (r *Reader) fail() {
	if r != nil {
		r.left, r.bad = "", true
	}
}

// digit reads a digit of a Num.
func (r *Reader) digit() uint32 {
	n := r.Int()
	if n < 0 || n >= 1<<32 {
		r.fail()
		return 0
	}
	return uint32(n)
}

// list reads the number of elements of a list, and then each of them by one.
func list[T any](r *Reader, one func() T) []T { return several(r, r.Int(), one) }

// several reads n values by one; none if that fails. It takes no memory beforehand: n may be much greater than what is left.
func several[T any](r *Reader, n int, one func() T) []T {
	if n < 0 {
		r.fail()
	}
	var l []T
	for range n {
		x := one()
		if r.Bad() {
			return nil
		}
		l = append(l, x)
	}
	return l
}
