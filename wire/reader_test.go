package wire_test

import (
	"math"
	"slices"
	"strings"
	"testing"

	"greenwood/api"
	"greenwood/wire"
)

func ends(t *testing.T, name string, r *wire.Reader, want api.Errno, place int) {
	t.Helper()
	// Asked twice: to be told the end changes nothing.
	for range 2 {
		if e, at := r.End(); e != want || at != place {
			t.Errorf("%s: ends with %d at %d, want %d at %d", name, e, at, want, place)
		}
	}
}

// takesNothing asks a reader that has an error, or is nil, for all that there is.
func takesNothing(t *testing.T, name string, r *wire.Reader) {
	t.Helper()
	for range 2 {
		if a, b, l, m := r.Num(), r.Int(), r.Nums(math.MaxInt), r.Ints(math.MaxInt); a != 0 || b != 0 || len(l) != 0 || len(m) != 0 {
			t.Errorf("%s: takes %d, %d, %v, %v", name, a, b, l, m)
		}
		if l, m := r.Nums(-1), r.Ints(-1); len(l) != 0 || len(m) != 0 {
			t.Errorf("%s: takes %v, %v", name, l, m)
		}
	}
}

func TestNumberTaken(t *testing.T) {
	cases := []struct {
		s        string
		num, int int
	}{
		{"\x00", 0, 0},
		{"\x01", 1, -1},
		{"\x02", 2, 1},
		{"\x03", 3, -2},
		{"\x7f", 127, -64},
		{"\x80\x01", 128, 64},
		{"\xac\x02", 300, 150},
		{"\x80\x80\x01", 1 << 14, 1 << 13},
		{"\xff\xff\xff\xff\xff\xff\x7f", 1<<49 - 1, -1 << 48},
		{"\xff\xff\xff\xff\xff\xff\xff\x01", api.MaxNum - 1, -great},
		{"\x80\x80\x80\x80\x80\x80\x80\x02", api.MaxNum, great},
	}
	for _, c := range cases {
		// What is behind a number has no part in it.
		for _, behind := range []string{"", "\x00", "\x80", "\xff\xff"} {
			want := api.OK
			if behind != "" {
				want = api.ErrLeft
			}
			r := wire.Read(c.s + behind)
			if n := r.Num(); n != c.num {
				t.Errorf("Num of %q: %d, want %d", c.s, n, c.num)
			}
			ends(t, "Num", r, want, len(c.s))
			r = wire.Read(c.s + behind)
			if n := r.Int(); n != c.int {
				t.Errorf("Int of %q: %d, want %d", c.s, n, c.int)
			}
			ends(t, "Int", r, want, len(c.s))
		}
	}
}

func TestNumberRefused(t *testing.T) {
	cases := []struct {
		s    string
		want api.Errno
	}{
		{"", api.ErrCut},
		{"\x80", api.ErrCut},
		{"\xff\xff", api.ErrCut},
		{strings.Repeat("\x80", 7), api.ErrCut},
		{strings.Repeat("\xff", 7), api.ErrCut},
		{strings.Repeat("\x80", 8), api.ErrLong},
		{strings.Repeat("\xff", 8), api.ErrLong},
		{strings.Repeat("\x80", 8) + "\x01", api.ErrLong},
		{strings.Repeat("\x80", 100), api.ErrLong},
		{"\x80\x00", api.ErrLong},
		{"\xff\x00", api.ErrLong},
		{"\x80\x00\x01", api.ErrLong},
		{"\x81\x80\x00", api.ErrLong},
		{strings.Repeat("\x80", 7) + "\x00", api.ErrLong},
		{"\x81\x80\x80\x80\x80\x80\x80\x02", api.ErrLong},
		{"\x80\x80\x80\x80\x80\x80\x80\x03", api.ErrLong},
		{strings.Repeat("\xff", 7) + "\x7f", api.ErrLong},
	}
	for _, c := range cases {
		for _, ahead := range []string{"", "\x05", "\xac\x02\x01"} {
			for name, take := range map[string]func(*wire.Reader) int{"Num": (*wire.Reader).Num, "Int": (*wire.Reader).Int} {
				r := wire.Read(ahead + c.s)
				for at := 0; at < len(ahead); at += len(wire.Num(r.Num())) {
				}
				if n := take(r); n != 0 {
					t.Errorf("%s of %q: %d", name, c.s, n)
				}
				ends(t, name, r, c.want, len(ahead))
				takesNothing(t, name, r)
				ends(t, name, r, c.want, len(ahead))
			}
		}
	}
}

func TestListTaken(t *testing.T) {
	cases := []struct {
		s          string
		most       int
		nums, ints []int
	}{
		{"\x00", 0, nil, nil},
		{"\x00", 5, nil, nil},
		{"\x01\x00", 1, []int{0}, []int{0}},
		{"\x02\x01\xac\x02", 2, []int{1, 300}, []int{-1, 150}},
		{"\x02\x01\xac\x02", 3, []int{1, 300}, []int{-1, 150}},
		{"\x03\x02\x01\x00", math.MaxInt, []int{2, 1, 0}, []int{1, -1, 0}},
		{"\x01\x80\x80\x80\x80\x80\x80\x80\x02", 1, []int{api.MaxNum}, []int{great}},
		{"\x80\x01" + strings.Repeat("\x01", 128), 128, slices.Repeat([]int{1}, 128), slices.Repeat([]int{-1}, 128)},
	}
	for _, c := range cases {
		r := wire.Read(c.s)
		if l := r.Nums(c.most); !slices.Equal(l, c.nums) {
			t.Errorf("Nums of %q: %v, want %v", c.s, l, c.nums)
		}
		ends(t, "Nums", r, api.OK, len(c.s))
		r = wire.Read(c.s + "\x00")
		if l := r.Ints(c.most); !slices.Equal(l, c.ints) {
			t.Errorf("Ints of %q: %v, want %v", c.s, l, c.ints)
		}
		ends(t, "Ints", r, api.ErrLeft, len(c.s))
	}
}

func TestListRefused(t *testing.T) {
	cases := []struct {
		s    string
		most int
		want api.Errno
		at   int
	}{
		{"", 5, api.ErrCut, 0},
		{"", -1, api.ErrCut, 0},
		{"\x80", 5, api.ErrCut, 0},
		{"\x80\x00", 5, api.ErrLong, 0},
		{"\x80\x00", 0, api.ErrLong, 0},
		{"\x81\x80\x80\x80\x80\x80\x80\x02", 5, api.ErrLong, 0},
		{"\x01\x00", 0, api.ErrMany, 0},
		{"\x01\x80\x00", 0, api.ErrMany, 0},
		{"\x03\x01\x01\x01", 2, api.ErrMany, 0},
		{"\x03", 2, api.ErrMany, 0},
		{"\x00", -1, api.ErrMany, 0},
		{"\x00", math.MinInt, api.ErrMany, 0},
		{"\x80\x80\x80\x80\x80\x80\x80\x02", api.MaxNum - 1, api.ErrMany, 0},
		{"\x01", 1, api.ErrCut, 1},
		{"\x02\x01", 2, api.ErrCut, 2},
		{"\x02\x01\x80", 2, api.ErrCut, 2},
		{"\x02\xac\x02\xff\xff", 2, api.ErrCut, 3},
		{"\x02\x80\x00\x01", 2, api.ErrLong, 1},
		{"\x02\x01\x80\x00", 2, api.ErrLong, 2},
		{"\x02\xac\x02\xff\xff\xff\xff\xff\xff\xff\xff\x01", 2, api.ErrLong, 3},
		{"\x03\x01\x80\x00\x01", 3, api.ErrLong, 2},
		// So many numbers fit into no memory: none may be asked for.
		{"\x80\x80\x80\x80\x80\x80\x80\x02", api.MaxNum, api.ErrCut, 8},
		{"\x80\x80\x80\x80\x80\x80\x80\x02\x01\x01", math.MaxInt, api.ErrCut, 10},
	}
	lists := map[string]func(*wire.Reader, int) []int{"Nums": (*wire.Reader).Nums, "Ints": (*wire.Reader).Ints}
	for _, c := range cases {
		for name, take := range lists {
			for _, ahead := range []int{0, 1, 300} {
				before := wire.Num(ahead)
				r := wire.Read(before + c.s)
				if n := r.Num(); n != ahead {
					t.Errorf("%d ahead: %d", ahead, n)
				}
				if l := take(r, c.most); len(l) != 0 {
					t.Errorf("%s of %q: %v", name, c.s, l)
				}
				ends(t, name, r, c.want, len(before)+c.at)
				takesNothing(t, name, r)
				ends(t, name, r, c.want, len(before)+c.at)
			}
		}
	}
}

func TestEnd(t *testing.T) {
	ends(t, "no bytes", wire.Read(""), api.OK, 0)
	ends(t, "the zero reader", &wire.Reader{}, api.OK, 0)
	ends(t, "nothing taken", wire.Read("\x01\x02"), api.ErrLeft, 0)
	r := wire.Read("\x05\x01\x02\x03\xac\x02\x01\x01")
	ends(t, "at the front", r, api.ErrLeft, 0)
	if n := r.Num(); n != 5 {
		t.Errorf("Num: %d", n)
	}
	// Bytes that are left are no error that the reader keeps: it takes them still.
	ends(t, "behind Num", r, api.ErrLeft, 1)
	if n := r.Int(); n != -1 {
		t.Errorf("Int: %d", n)
	}
	ends(t, "behind Int", r, api.ErrLeft, 2)
	if l := r.Nums(2); !slices.Equal(l, []int{3, 300}) {
		t.Errorf("Nums: %v", l)
	}
	ends(t, "behind Nums", r, api.ErrLeft, 6)
	if l := r.Ints(1); !slices.Equal(l, []int{-1}) {
		t.Errorf("Ints: %v", l)
	}
	ends(t, "behind all", r, api.OK, 8)
	if n := r.Num(); n != 0 {
		t.Errorf("behind the end: %d", n)
	}
	ends(t, "beyond the end", r, api.ErrCut, 8)
}

func TestNilReader(t *testing.T) {
	var r *wire.Reader
	ends(t, "nil", r, api.ErrArg, 0)
	takesNothing(t, "nil", r)
	ends(t, "nil", r, api.ErrArg, 0)
}

func TestReadersAreApart(t *testing.T) {
	const s = "\x02\x07\x08"
	a, b := wire.Read(s), wire.Read(s)
	a.Nums(1)
	ends(t, "the one", a, api.ErrMany, 0)
	l := b.Nums(2)
	if !slices.Equal(l, []int{7, 8}) {
		t.Errorf("the other: %v", l)
	}
	ends(t, "the other", b, api.OK, 3)
	l[0] = 9
	if m := wire.Read(s).Nums(2); !slices.Equal(m, []int{7, 8}) {
		t.Errorf("after a list was written into: %v", m)
	}
}
