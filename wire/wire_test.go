package wire_test

import (
	"math"
	"slices"
	"strings"
	"testing"

	"greenwood/api"
	"greenwood/wire"
)

// great is the greatest signed number that has bytes.
const great = api.MaxNum / 2

func TestNum(t *testing.T) {
	cases := []struct {
		n    int
		want string
	}{
		{0, "\x00"},
		{1, "\x01"},
		{127, "\x7f"},
		{128, "\x80\x01"},
		{129, "\x81\x01"},
		{300, "\xac\x02"},
		{1<<14 - 1, "\xff\x7f"},
		{1 << 14, "\x80\x80\x01"},
		{1<<49 - 1, "\xff\xff\xff\xff\xff\xff\x7f"},
		{1 << 49, "\x80\x80\x80\x80\x80\x80\x80\x01"},
		{api.MaxNum - 1, "\xff\xff\xff\xff\xff\xff\xff\x01"},
		{api.MaxNum, "\x80\x80\x80\x80\x80\x80\x80\x02"},
		{api.MaxNum + 1, ""},
		{1 << 56, ""},
		{math.MaxInt, ""},
		{-1, ""},
		{-128, ""},
		{-api.MaxNum, ""},
		{math.MinInt, ""},
	}
	for _, c := range cases {
		if s := wire.Num(c.n); s != c.want {
			t.Errorf("Num(%d): %q, want %q", c.n, s, c.want)
		}
	}
}

func TestInt(t *testing.T) {
	cases := []struct {
		n    int
		want string
	}{
		{0, "\x00"},
		{-1, "\x01"},
		{1, "\x02"},
		{-2, "\x03"},
		{2, "\x04"},
		{63, "\x7e"},
		{-64, "\x7f"},
		{64, "\x80\x01"},
		{-65, "\x81\x01"},
		{great - 1, "\xfe\xff\xff\xff\xff\xff\xff\x01"},
		{-great, "\xff\xff\xff\xff\xff\xff\xff\x01"},
		{great, "\x80\x80\x80\x80\x80\x80\x80\x02"},
		{great + 1, ""},
		{-great - 1, ""},
		{api.MaxNum, ""},
		{-api.MaxNum, ""},
		{1 << 62, ""},
		{-1 << 62, ""},
		{1<<63 - 1, ""},
		{-1 << 63, ""},
		{-1<<63 + 1, ""},
	}
	for _, c := range cases {
		if s := wire.Int(c.n); s != c.want {
			t.Errorf("Int(%d): %q, want %q", c.n, s, c.want)
		}
	}
}

func TestLists(t *testing.T) {
	cases := []struct {
		l          []int
		nums, ints string
	}{
		{nil, "\x00", "\x00"},
		{[]int{}, "\x00", "\x00"},
		{[]int{0}, "\x01\x00", "\x01\x00"},
		{[]int{1, 300}, "\x02\x01\xac\x02", "\x02\x02\xd8\x04"},
		{[]int{1, -1}, "", "\x02\x02\x01"},
		{[]int{-1, 1}, "", "\x02\x01\x02"},
		{[]int{api.MaxNum}, "\x01\x80\x80\x80\x80\x80\x80\x80\x02", ""},
		{[]int{5, api.MaxNum + 1, 5}, "", ""},
		{[]int{5, great + 1}, "\x02\x05\x81\x80\x80\x80\x80\x80\x80\x01", ""},
		{[]int{-great}, "", "\x01\xff\xff\xff\xff\xff\xff\xff\x01"},
		{[]int{-great - 1, 5}, "", ""},
		{[]int{math.MinInt}, "", ""},
		{[]int{math.MaxInt}, "", ""},
	}
	for _, c := range cases {
		kept := slices.Clone(c.l)
		if s := wire.Nums(c.l); s != c.nums {
			t.Errorf("Nums(%v): %q, want %q", c.l, s, c.nums)
		}
		if s := wire.Ints(c.l); s != c.ints {
			t.Errorf("Ints(%v): %q, want %q", c.l, s, c.ints)
		}
		if !slices.Equal(c.l, kept) {
			t.Errorf("%v was changed to %v", kept, c.l)
		}
	}
	if s := wire.Nums(make([]int, 300)); s != "\xac\x02"+strings.Repeat("\x00", 300) {
		t.Errorf("300 times 0: %q", s)
	}
}
