package modp_test

import (
	"math"
	"math/big"
	"testing"

	"greenwood/modp"
)

// top is the greatest number that is divided by; it is a prime.
const top = 1<<31 - 1

// outside are numbers by which nothing is divided; the lowest bits of some are those of a prime.
func outside() []int {
	return []int{
		math.MinInt, math.MinInt + 1, -1<<61 + 1, -1<<32 - 3, -1 << 32, 3 - 1<<32, -1<<31 - 1, -1 << 31, -top,
		-97, -7, -5, -3, -2, -1, 0,
		1 << 31, 1<<31 + 1, 1<<31 + 11, 3215031751, 1<<32 - 5, 1 << 32, 1<<32 + 1, 1<<32 + 2, 1<<32 + 3, 1<<32 + 7, 1<<32 + 15,
		1<<40 + 15, 1<<50 - 27, 1<<61 - 1, 1 << 62, math.MaxInt - 24, math.MaxInt - 1, math.MaxInt,
	}
}

// edges are numbers near the bounds of all that may be told of them, and some between.
func edges() []int {
	return append(outside(),
		1, 2, 3, 4, 5, 6, 7, 8, 9, 10, 11, 64, 97, 1000, 46337, 46340, 46341, 46342, 65535, 65536, 65537, 123456789,
		1<<30-1, 1<<30, 1<<30+1, top-19, top-18, top-2, top-1, top, -4, -6, -8, -9, -65536, 1-top, -1<<31+2)
}

// byDivision tells by all that may divide it whether p is a prime.
func byDivision(p int) bool {
	if p < 2 || p > top {
		return false
	}
	for d := 2; d*d <= p; d++ {
		if p%d == 0 {
			return false
		}
	}
	return true
}

func prime(t *testing.T, p int, want bool) {
	t.Helper()
	if got := modp.Prime(p); got != want {
		t.Errorf("Prime(%d): %v", p, got)
	}
}

func TestPrimeOfAllInRows(t *testing.T) {
	rows := [][2]int{{-1000, 200000}, {1 << 24, 1<<24 + 200}, {46337*46337 - 20, 46340*46340 + 20}, {1<<31 - 500, 1<<31 + 500}, {1<<32 - 50, 1<<32 + 50}}
	for _, row := range rows {
		for p := row[0]; p <= row[1]; p++ {
			prime(t, p, byDivision(p))
		}
	}
}

func TestPrimeOfOthers(t *testing.T) {
	for _, p := range outside() {
		prime(t, p, false)
	}
	prime(t, 1, false)
	for p := math.MaxInt; p > math.MaxInt-1000; p-- {
		prime(t, p, false)
		prime(t, -p, false)
	}
	prime(t, math.MinInt, false)
	// To be near to a power of two, on either side, doesn't count.
	for n := range 63 {
		for d := -3; d <= 3; d++ {
			if p := 1<<n + d; p > top || p < 2 {
				prime(t, p, false)
			} else {
				prime(t, p, byDivision(p))
			}
			prime(t, -(1<<n + d), 1<<n+d == -2 || 1<<n+d == -3)
		}
	}
}

func TestPrimes(t *testing.T) {
	// Less 1, many of these are odd numbers times great powers of two; of the others the half is odd, too.
	for _, p := range []int{
		2, 3, 5, 7, 11, 13, 17, 19, 31, 97, 127, 257, 7681, 8191, 12289, 65537, 131071, 524287, 786433, 1000003,
		5767169, 7340033, 23068673, 104857601, 167772161, 469762049, 754974721, 998244353, 1811939329, 2013265921, 2113929217,
		1000000007, 1000000009, 1<<30 - 35, 2147483549, 2147483563, 2147483579, 2147483587, 2147483629, top,
	} {
		prime(t, p, true)
	}
}

func TestNoPrimesThatPass(t *testing.T) {
	lists := map[string][]int{
		"are no primes, and pass Fermat's test": {561, 1105, 1729, 2465, 2821, 6601, 8911, 10585, 15841, 29341, 41041, 825265, 321197185},
		"pass with 2":                           {2047, 3277, 4033, 4681, 8321, 15841, 29341, 42799, 49141, 52633, 65281, 74665, 80581, 85489, 88357, 90751},
		"pass with 3":                           {121, 703, 1891, 3281, 8401, 8911, 10585, 12403, 16531, 18721, 19345, 23521, 31621},
		"pass with 5":                           {781, 1541, 5461, 5611, 7813, 13021, 14981, 15751, 24211, 25351, 29539, 38081},
		"pass with 7":                           {25, 325, 703, 2101, 2353, 4525, 11041, 14089, 20197, 29857, 29891, 39331},
		"pass with 2 and 3":                     {1373653, 1530787, 1987021, 3116107, 5173601, 6787327, 11541307, 13694761, 1854940231},
		"pass with 2 and 5":                     {1907851, 4181921, 4469471, 5256091, 9006401, 9863461, 14709241, 1934350351},
		"pass with 2 and 7":                     {314821, 2269093, 3539101, 5489641, 6386993, 15188557, 19328653, 2141340833},
		"pass with 3 and 5":                     {112141, 432821, 1563151, 1627921, 3543121, 4291801, 5481451, 1719867911},
		"pass with 3 and 7":                     {703, 188191, 385003, 1152271, 1551941, 1590751, 1869211, 616238407},
		"pass with 5 and 7":                     {79381, 764941, 1314631, 1963501, 4411681, 7028821, 17236801, 1508642701},
		"pass with 2, 3 and 5":                  {25326001, 161304001, 960946321, 1157839381},
		"pass with 2, 3 and 7":                  {2284453, 143168581, 682528687, 1168256953, 1638294661, 1856689453},
		"pass with 2, 5 and 7":                  {746331041},
		"pass with 3, 5 and 7":                  {1024651, 32817151, 116151661, 134176771, 178482151, 255866131, 258503701, 591043771, 652969351, 972471151, 1487387611, 1588247851, 2086236181},
		"are squares of primes":                 {4, 9, 25, 49, 121, 1093 * 1093, 3511 * 3511, 46327 * 46327, 46337 * 46337},
		"have two great primes":                 {46337 * 46327, 46349 * 46327, 3 * 715827881, 2 * 1073741789},
	}
	for name, list := range lists {
		for _, p := range list {
			if modp.Prime(p) || byDivision(p) {
				t.Errorf("Prime(%d): true, of those that %s", p, name)
			}
		}
	}
}

// modBy tells by great numbers what is left of a.
func modBy(a, p int) int {
	if p < 1 || p > top {
		return 0
	}
	m := new(big.Int).Mod(big.NewInt(int64(a)), big.NewInt(int64(p)))
	return int(m.Int64())
}

// powBy tells by great numbers what is left of a power.
func powBy(a, n, p int) int {
	if n < 0 || p < 1 || p > top {
		return 0
	}
	by := big.NewInt(int64(p))
	m := new(big.Int).Exp(big.NewInt(int64(modBy(a, p))), big.NewInt(int64(n)), by)
	return int(m.Mod(m, by).Int64())
}

func TestMod(t *testing.T) {
	cases := []struct{ a, p, want int }{
		{0, 1, 0}, {5, 1, 0}, {-5, 1, 0}, {math.MinInt, 1, 0}, {math.MaxInt, 1, 0},
		{20, 7, 6}, {6, 7, 6}, {7, 7, 0}, {8, 7, 1}, {0, 7, 0}, {-1, 7, 6}, {-6, 7, 1}, {-7, 7, 0}, {-8, 7, 6}, {-14, 7, 0},
		{math.MinInt, 2, 0}, {math.MinInt, 3, 1}, {math.MinInt, 7, 6}, {math.MaxInt, 2, 1}, {math.MaxInt, 7, 0},
		{math.MinInt, top, top - 2}, {math.MinInt + 1, top, top - 1}, {math.MaxInt, top, 1},
		{top, top, 0}, {top - 1, top, top - 1}, {1 << 31, top, 1}, {-1, top, top - 1}, {-top, top, 0}, {-1 << 31, top, top - 1},
		{5, 0, 0}, {0, 0, 0}, {-5, 0, 0}, {5, 1 << 31, 0}, {5, -7, 0}, {-5, -7, 0}, {5, -1, 0}, {math.MinInt, -1, 0}, {5, math.MinInt, 0}, {5, math.MaxInt, 0},
	}
	for _, c := range cases {
		if got := modp.Mod(c.a, c.p); got != c.want {
			t.Errorf("Mod(%d, %d): %d, want %d", c.a, c.p, got, c.want)
		}
	}
	for _, p := range edges() {
		for _, a := range edges() {
			if got, want := modp.Mod(a, p), modBy(a, p); got != want {
				t.Errorf("Mod(%d, %d): %d, want %d", a, p, got, want)
			}
		}
	}
}

func TestPow(t *testing.T) {
	cases := []struct{ a, n, p, want int }{
		{2, 10, 1000, 24}, {2, 10, 1024, 0}, {2, 10, 1025, 1024}, {3, 5, 7, 5}, {10, 3, 1001, 1000}, {-2, 3, 7, 6}, {-2, 4, 7, 2},
		{5, 0, 7, 1}, {0, 0, 7, 1}, {7, 0, 7, 1}, {-5, 0, 2, 1}, {math.MinInt, 0, top, 1}, {5, 0, 1, 0}, {0, 0, 1, 0}, {5, 3, 1, 0},
		{0, 1, 7, 0}, {0, 5, 7, 0}, {14, 5, 7, 0}, {5, 1, 7, 5}, {-5, 1, 7, 2}, {12, 1, 7, 5}, {6, 2, 36, 0},
		{3, 1 << 40, 2, 1}, {2, 1 << 40, 7, 2}, {2, math.MaxInt, 7, 2}, {0, math.MaxInt, 7, 0}, {2, 31, top, 1}, {2, math.MaxInt, top, 1 << 7},
		{top - 1, 2, top, 1}, {top - 1, 3, top, top - 1}, {top - 1, math.MaxInt, top, top - 1}, {top - 2, 2, top, 4}, {top - 2, 2, top - 1, 1},
		{-1, math.MaxInt, top, top - 1}, {-1, math.MaxInt - 1, top, 1}, {math.MinInt, 2, top, 4}, {math.MinInt, 3, 3, 1},
		{2, -1, 7, 0}, {1, -1, 7, 0}, {0, -1, 7, 0}, {3, -2, 7, 0}, {3, math.MinInt, 7, 0}, {1, math.MinInt, top, 0},
		{2, 3, 0, 0}, {2, 0, 0, 0}, {2, 0, 1 << 31, 0}, {2, 3, 1 << 31, 0}, {2, 3, -7, 0}, {2, 0, -7, 0}, {2, 0, -1, 0}, {2, 0, math.MinInt, 0}, {2, 0, math.MaxInt, 0}, {2, -1, 0, 0},
	}
	for _, c := range cases {
		if got := modp.Pow(c.a, c.n, c.p); got != c.want {
			t.Errorf("Pow(%d, %d, %d): %d, want %d", c.a, c.n, c.p, got, c.want)
		}
	}
	for _, p := range edges() {
		for _, n := range edges() {
			for _, a := range edges() {
				if got, want := modp.Pow(a, n, p), powBy(a, n, p); got != want {
					t.Errorf("Pow(%d, %d, %d): %d, want %d", a, n, p, got, want)
				}
			}
		}
	}
}

func TestPowByPow(t *testing.T) {
	for p := 1; p <= 40; p++ {
		for a := -40; a <= 40; a++ {
			power := 1 % p
			for n := range 70 {
				if got := modp.Pow(a, n, p); got != power {
					t.Errorf("Pow(%d, %d, %d): %d, want %d", a, n, p, got, power)
				}
				power = modBy(power*a, p)
			}
		}
	}
}

// inverse holds what is told by Inv against what Prime p and a ask for.
func inverse(t *testing.T, a, p int, is bool) {
	t.Helper()
	i, ok := modp.Inv(a, p)
	if ok != is || !ok && i != 0 {
		t.Errorf("Inv(%d, %d): %d, %v", a, p, i, ok)
	}
	if ok && (i < 1 || i >= p || modBy(a, p)*i%p != 1) {
		t.Errorf("Inv(%d, %d): %d", a, p, i)
	}
}

func TestInv(t *testing.T) {
	cases := []struct{ a, p, want int }{
		{3, 7, 5}, {5, 7, 3}, {1, 7, 1}, {6, 7, 6}, {-1, 7, 6}, {-4, 7, 5}, {10, 7, 5}, {2, 5, 3}, {1, 2, 1}, {-1, 2, 1}, {3, 2, 1}, {1, 3, 1}, {2, 3, 2},
		{2, top, 1 << 30}, {1 << 30, top, 2}, {top - 1, top, top - 1}, {-1, top, top - 1}, {1, top, 1}, {top + 1, top, 1},
		{math.MaxInt, top, 1}, {math.MaxInt, 2, 1}, {math.MinInt, 3, 1}, {math.MinInt, 7, 6}, {math.MinInt, top, 1<<30 - 1},
	}
	for _, c := range cases {
		if got, ok := modp.Inv(c.a, c.p); got != c.want || !ok {
			t.Errorf("Inv(%d, %d): %d, %v, want %d", c.a, c.p, got, ok, c.want)
		}
	}
	for _, p := range edges() {
		is := byDivision(p)
		for _, a := range edges() {
			inverse(t, a, p, is && modBy(a, p) != 0)
		}
	}
}

func TestInvOfSmall(t *testing.T) {
	for p := -10; p <= 150; p++ {
		is := byDivision(p)
		for a := -2 * 150; a <= 2*150; a++ {
			inverse(t, a, p, is && modBy(a, p) != 0)
		}
	}
}

func TestInvOfWhatPrimeDivides(t *testing.T) {
	for _, p := range []int{2, 3, 5, 7, 97, 65537, 998244353, top - 18, top} {
		most := math.MaxInt / p
		for _, times := range []int{0, 1, 2, 3, p, p + 1, most - 1, most} {
			inverse(t, times*p, p, false)
			inverse(t, -times*p, p, false)
			inverse(t, -times*p+1, p, true)
			inverse(t, -times*p-1, p, true)
		}
	}
	inverse(t, math.MinInt, 2, false)
	inverse(t, math.MaxInt, 7, false)
	inverse(t, math.MaxInt, 649657, false)
}

func TestInvByNoPrime(t *testing.T) {
	// That 1, or another number that shares nothing with p, has an inverse does not count.
	for _, p := range append(outside(), 1, 4, 6, 8, 9, 15, 49, 561, 2047, 65536, 25326001, 46337*46337, 746331041, 2086236181, top-1) {
		for _, a := range []int{math.MinInt, -p - 1, -p, 1 - p, -2, -1, 0, 1, 2, 3, 5, 7, 11, p - 1, p, p + 1, math.MaxInt} {
			inverse(t, a, p, false)
		}
	}
}
