package modp_test

import (
	"testing"

	"greenwood/modp"
)

// primes are so few, and so small, that all numbers modulo each can be gone through.
func primes() []int { return []int{2, 3, 5, 7, 11, 13, 17, 19, 23, 29, 31, 37, 41, 43} }

// quotient tells a divided by b, modulo p.
func quotient(a, b, p int) (int, bool) {
	i, ok := modp.Inv(b, p)
	return modp.Mod(modp.Mod(a, p)*i, p), ok
}

func TestDivisionHasOneAnswer(t *testing.T) {
	for _, p := range primes() {
		for b := 1; b < p; b++ {
			for a := range p {
				q, ok := quotient(a, b, p)
				for x := range p {
					if (modp.Mod(x*b, p) == a) != (ok && x == q) {
						t.Errorf("modulo %d, %d divided by %d: %d, %v; %d is another", p, a, b, q, ok, x)
					}
				}
			}
		}
		for a := range p {
			if q, ok := quotient(a, 0, p); q != 0 || ok {
				t.Errorf("modulo %d, %d divided by 0: %d, %v", p, a, q, ok)
			}
		}
	}
}

func TestPrimeIffAllDivide(t *testing.T) {
	// All numbers from 1 to p - 1 have one that, times it, leaves 1: modulo primes, and no other number from 2 on.
	for p := 2; p <= 200; p++ {
		all := true
		for a := 1; a < p; a++ {
			some := false
			for x := 1; x < p; x++ {
				some = some || modp.Mod(a*x, p) == 1
			}
			all = all && some
		}
		if modp.Prime(p) != all {
			t.Errorf("Prime(%d): %v", p, !all)
		}
	}
}

// great are primes whose numbers, times one another, come near to the greatest int.
func great() []int { return []int{65537, 998244353, 2013265921, top - 18, top} }

// some are numbers modulo p: the least ones, the greatest ones, and some between.
func some(p int) []int {
	l := []int{p / 2, p/2 + 1, p / 3, p / 5, p - p/7}
	for i := 1; i <= 10; i++ {
		l = append(l, i, p-i, i*(p/11))
	}
	return l
}

func TestDivisionByGreatPrimes(t *testing.T) {
	for _, p := range great() {
		for _, b := range some(p) {
			for _, a := range some(p) {
				q, ok := quotient(a, b, p)
				if !ok || modp.Mod(q*b, p) != a || q < 0 || q >= p {
					t.Errorf("modulo %d, %d divided by %d: %d, %v", p, a, b, q, ok)
				}
				if c, _ := quotient(modp.Mod(a*b, p), b, p); c != a {
					t.Errorf("modulo %d, %d times %d, divided by that: %d", p, a, b, c)
				}
			}
		}
	}
}

func TestLawsOfInverses(t *testing.T) {
	for _, p := range append(primes(), great()...) {
		for _, a := range some(p) {
			i, ok := modp.Inv(a, p)
			if ok != (modp.Mod(a, p) != 0) {
				t.Errorf("Inv(%d, %d): %d, %v", a, p, i, ok)
			}
			if !ok {
				continue
			}
			if back, _ := modp.Inv(i, p); back != modp.Mod(a, p) {
				t.Errorf("modulo %d, the inverse of %d, that of %d: %d", p, i, a, back)
			}
			if less, _ := modp.Inv(-a, p); less != p-i {
				t.Errorf("modulo %d, the inverse of %d: %d, of %d: %d", p, a, i, -a, less)
			}
			if same, _ := modp.Inv(a-3*p, p); same != i {
				t.Errorf("modulo %d, the inverse of %d: %d, of %d: %d", p, a, i, a-3*p, same)
			}
			if modp.Pow(a, p-1, p) != 1 || modp.Pow(a, p-2, p) != i || modp.Pow(a, p, p) != modp.Mod(a, p) {
				t.Errorf("modulo %d, %d to the powers of %d and its neighbours", p, a, p-1)
			}
			if modp.Pow(i, 5, p)*modp.Pow(a, 5, p)%p != 1 {
				t.Errorf("modulo %d, the fifth powers of %d and %d", p, a, i)
			}
		}
	}
}
