// Package fval: values. See doc/01-fval.md.
package fval

import (
	"math"
	"strconv"
	"strings"

	"isobar/api"
)

// Places in the table of bits.
const (
	nan = iota
	stale
	infinity
	sign
)

// The bits that the document names, and those of IEEE's format that it leans on: as integers, since a float
// that is NaN cannot be told from another by comparing.
var bits = [...]uint64{
	nan:      0x7FF8000000000001,
	stale:    0x7FF0000000000002,
	infinity: 0x7FF0000000000000,
	sign:     0x8000000000000000,
}

// longest is how many bytes the text of a number may have.
const longest = 64

// Canon answers v, with one NaN in place of all.
func Canon(v float64) float64 {
	if isNaN(v) {
		return math.Float64frombits(bits[nan])
	}
	return v
}

// Bits answers the bits of v's Canon.
func Bits(v float64) uint64 {
	return math.Float64bits(Canon(v))
}

// Stale answers the value behind which a series is not there.
func Stale() float64 {
	return math.Float64frombits(bits[stale])
}

// IsStale tells whether v is the stale value, bit by bit: this NaN alone is told from the others.
func IsStale(v float64) bool {
	return math.Float64bits(v) == bits[stale]
}

// Same tells whether a and b are one value; 0 and -0 are two.
func Same(a, b float64) bool {
	return Bits(a) == Bits(b)
}

// Before tells whether a stands ahead of b: NaN first, then as numbers, -0 ahead of 0.
func Before(a, b float64) bool {
	if isNaN(a) || isNaN(b) {
		return isNaN(a) && !isNaN(b)
	}
	if a == b {
		return signed(a) && !signed(b)
	}
	return a < b
}

// Sum adds from the left. It begins with the first value, not with 0, so that -0 alone stays -0.
func Sum(l ...float64) float64 {
	if len(l) == 0 {
		return 0
	}
	sum := l[0]
	for _, v := range l[1:] {
		sum += v
	}
	return Canon(sum)
}

// Op answers an operator's outcome, 1 or 0 of one that compares; false where op is none of these.
func Op(op int, a, b float64) (float64, bool) {
	switch op {
	case api.Add:
		return Canon(a + b), true
	case api.Sub:
		return Canon(a - b), true
	case api.Mul:
		// Said as a conversion, the product is rounded by itself, wherever this call is written in line:
		// a compiler may not join it with a sum around it.
		return Canon(float64(a * b)), true
	case api.Div:
		return Canon(a / b), true
	case api.Eq, api.Ne, api.Gt, api.Lt, api.Ge, api.Le:
		if Holds(op, a, b) {
			return 1, true
		}
		return 0, true
	}
	return 0, false
}

// Holds tells whether a comparison holds of a and b, as numbers.
func Holds(op int, a, b float64) bool {
	switch op {
	case api.Eq:
		return a == b
	case api.Ne:
		return a != b
	case api.Gt:
		return a > b
	case api.Lt:
		return a < b
	case api.Ge:
		return a >= b
	case api.Le:
		return a <= b
	}
	return false
}

// Fn answers a function's outcome of v; arg is asked by FMin and FMax alone; false where fn is none.
func Fn(fn int, v, arg float64) (float64, bool) {
	switch fn {
	case api.FAbs:
		v = math.Float64frombits(math.Float64bits(v) &^ bits[sign])
	case api.FNeg:
		v = math.Float64frombits(math.Float64bits(v) ^ bits[sign])
	case api.FSgn:
		v = signum(v)
	case api.FMin:
		if v < arg || isNaN(arg) {
			v = arg
		}
	case api.FMax:
		if v > arg || isNaN(arg) {
			v = arg
		}
	default:
		return 0, false
	}
	return Canon(v), true
}

// Text tells v by the shortest digits that are read as v again.
func Text(v float64) string {
	return strconv.FormatFloat(v, 'g', -1, 64)
}

// Parse reads a number without a sign ahead, Inf or NaN; false where s is none of these.
func Parse(s string) (float64, bool) {
	if len(s) > longest {
		return 0, false
	}
	switch s {
	case "Inf":
		return math.Float64frombits(bits[infinity]), true
	case "NaN":
		return math.Float64frombits(bits[nan]), true
	}
	if !decimal(s) {
		return 0, false
	}
	// Of a decimal text the one error left is that it is beyond the greatest: the value beside it is then
	// the infinity that is asked for.
	v, _ := strconv.ParseFloat(s, 64)
	return v, true
}

func isNaN(v float64) bool {
	return v != v
}

// signed tells whether v has a minus sign, which no comparison tells of -0.
func signed(v float64) bool {
	return math.Float64bits(v)&bits[sign] != 0
}

func signum(v float64) float64 {
	switch {
	case v > 0:
		return 1
	case v < 0:
		return -1
	}
	return v
}

// decimal tells whether s is digits, with a dot among or beside them or not, and an exponent or not. It is
// asked ahead of strconv.ParseFloat, which takes more: signs, hexadecimal digits, other words.
func decimal(s string) bool {
	count := digits(s)
	rest := s[count:]
	if strings.HasPrefix(rest, ".") {
		part := digits(rest[1:])
		count += part
		rest = rest[1+part:]
	}
	return count > 0 && (rest == "" || exponent(rest))
}

// exponent tells whether s is e or E, a sign or not, and digits to its end.
func exponent(s string) bool {
	if !strings.HasPrefix(s, "e") && !strings.HasPrefix(s, "E") {
		return false
	}
	s = s[1:]
	if strings.HasPrefix(s, "+") || strings.HasPrefix(s, "-") {
		s = s[1:]
	}
	return s != "" && digits(s) == len(s)
}

// digits tells how many digits s begins with.
func digits(s string) int {
	n := 0
	for n < len(s) && s[n] >= '0' && s[n] <= '9' {
		n++
	}
	return n
}
