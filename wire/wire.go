// Package wire is layer 1: numbers as bytes. See shared/doc/01-wire.md.
package wire

import (
	"strings"

	"greenwood/api"
)

// maxInt is what the greatest signed number is, and the least one without its sign.
const maxInt = api.MaxNum / 2

// Num tells the bytes of a number, nothing of what is out of bounds.
func Num(n int) string {
	if n < 0 || n > api.MaxNum {
		return ""
	}
	var b []byte
	for ; n >= 128; n >>= 7 {
		b = append(b, byte(n&127)|128)
	}
	return string(append(b, byte(n)))
}

// Int tells the bytes of a signed number, nothing of what is out of bounds.
func Int(n int) string {
	// Held against the bounds ahead of being doubled: twice the greatest ints would overflow.
	if n < -maxInt || n > maxInt {
		return ""
	}
	if n < 0 {
		return Num(-2*n - 1)
	}
	return Num(2 * n)
}

// Nums tells how many numbers there are, and their bytes.
func Nums(l []int) string { return row(l, Num) }

// Ints tells how many signed numbers there are, and their bytes.
func Ints(l []int) string { return row(l, Int) }

func row(l []int, one func(int) string) string {
	var b strings.Builder
	b.WriteString(Num(len(l)))
	for _, n := range l {
		s := one(n)
		if s == "" {
			return ""
		}
		b.WriteString(s)
	}
	return b.String()
}
