package wire_test

import (
	"slices"
	"strings"
	"testing"

	"greenwood/api"
	"greenwood/wire"
)

// numbers tells numbers round all the powers of two that are in bounds, and the least ones.
func numbers() []int {
	var l []int
	for n := range 1000 {
		l = append(l, n)
	}
	for p := 10; p <= 50; p++ {
		for d := -2; d <= 2; d++ {
			if n := 1<<p + d; n <= api.MaxNum {
				l = append(l, n)
			}
		}
	}
	return l
}

func TestWrittenIsTaken(t *testing.T) {
	for _, n := range numbers() {
		s := wire.Num(n)
		r := wire.Read(s)
		if got := r.Num(); s == "" || got != n {
			t.Errorf("Num(%d): %q, %d", n, s, got)
		}
		ends(t, "Num", r, api.OK, len(s))
		for _, x := range []int{n / 2, -(n / 2)} {
			s := wire.Int(x)
			r := wire.Read(s)
			if got := r.Int(); s == "" || got != x {
				t.Errorf("Int(%d): %q, %d", x, s, got)
			}
			ends(t, "Int", r, api.OK, len(s))
		}
	}
}

func TestListWrittenIsTaken(t *testing.T) {
	nums := numbers()
	var ints []int
	for _, n := range nums {
		ints = append(ints, n/2, -(n / 2))
	}
	for size := range 200 {
		a, b := nums[len(nums)-size:], ints[len(ints)-size:]
		s := wire.Nums(a) + wire.Ints(b)
		r := wire.Read(s)
		if l := r.Nums(size); !slices.Equal(l, a) {
			t.Errorf("Nums of %v: %v", a, l)
		}
		if l := r.Ints(size); !slices.Equal(l, b) {
			t.Errorf("Ints of %v: %v", b, l)
		}
		ends(t, "lists", r, api.OK, len(s))
	}
}

// rows calls do with all rows of so many bytes that are near the edges.
func rows(size int, do func(string)) {
	edges := []byte{0, 1, 2, 3, 127, 128, 129, 255}
	b := make([]byte, size)
	var fill func(int)
	fill = func(i int) {
		if i == size {
			do(string(b))
			return
		}
		for _, e := range edges {
			b[i] = e
			fill(i + 1)
		}
	}
	fill(0)
}

func TestOneWayAlone(t *testing.T) {
	taken := 0
	look := func(s string) {
		r := wire.Read(s)
		n := r.Num()
		if e, at := r.End(); e == api.OK {
			taken++
			if wire.Num(n) != s || at != len(s) {
				t.Errorf("%q is taken as %d, which is written %q", s, n, wire.Num(n))
			}
		}
		r = wire.Read(s)
		n = r.Int()
		if e, _ := r.End(); e == api.OK && wire.Int(n) != s {
			t.Errorf("%q is taken as %d, which is written %q", s, n, wire.Int(n))
		}
		r = wire.Read(s)
		l := r.Nums(api.MaxNum)
		if e, _ := r.End(); e == api.OK && wire.Nums(l) != s {
			t.Errorf("%q is taken as %v, which is written %q", s, l, wire.Nums(l))
		}
		r = wire.Read(s)
		l = r.Ints(api.MaxNum)
		if e, _ := r.End(); e == api.OK && wire.Ints(l) != s {
			t.Errorf("%q is taken as %v, which is written %q", s, l, wire.Ints(l))
		}
	}
	for size := range 6 {
		rows(size, look)
		rows(size, func(s string) { look(strings.Repeat("\x80", 5) + s) })
	}
	if taken == 0 {
		t.Error("nothing was taken")
	}
}
