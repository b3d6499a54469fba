package num

import (
	"slices"
	"strconv"
	"strings"

	"equipoise/api"
)

const (
	groupLen  = 9             // decimal digits that are read and written at once
	groupBase = 1_000_000_000 // 10 to the power of groupLen
	maxText   = 2467          // decimal digits of 2^8192 - 1
)

// Text returns a in decimal; the empty string if a is not right.
func Text(a api.Num) string {
	if !Right(a) {
		return ""
	}
	var text strings.Builder
	if a.Neg {
		text.WriteByte('-')
	}
	l := groups(a.D)
	for k, group := range slices.Backward(l) {
		s := strconv.FormatUint(uint64(group), 10)
		if k < len(l)-1 {
			text.WriteString(strings.Repeat("0", groupLen-len(s)))
		}
		text.WriteString(s)
	}
	return text.String()
}

// groups returns the digits to the base 10^9, at least one, the lowest one first.
func groups(d []uint32) []uint32 {
	rest := slices.Clone(d)
	l := []uint32{cut(rest, groupBase)}
	for rest = trim(rest); len(rest) > 0; rest = trim(rest) {
		l = append(l, cut(rest, groupBase))
	}
	return l
}

// Parse returns the right Num whose Text is s; false if there is none.
func Parse(s string) (api.Num, bool) {
	size, neg := strings.CutPrefix(s, "-")
	if !decimal(size) || neg && size == "0" {
		return api.Num{}, false
	}
	return made(neg, parsed(size))
}

// decimal reports whether s is the text of an integer that is not negative; of those that do not fit, only of some.
func decimal(s string) bool {
	if s == "" || len(s) > maxText || s[0] == '0' && s != "0" {
		return false
	}
	for _, c := range []byte(s) {
		if c < '0' || c > '9' {
			return false
		}
	}
	return true
}

// parsed returns the digits of a text that is decimal.
func parsed(s string) []uint32 {
	var d []uint32
	for len(s) > 0 {
		n := (len(s)-1)%groupLen + 1 // the first group is the short one
		group, _ := strconv.ParseUint(s[:n], 10, 32)
		d = plus(times(d, []uint32{groupBase}), []uint32{uint32(group)})
		s = s[n:]
	}
	return d
}
