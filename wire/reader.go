package wire

import "greenwood/api"

// longest is how many bytes a number has, at most.
const longest = 8

// Reader takes numbers from the front of bytes.
type Reader struct {
	text string
	at   int
	err  error
}

// Read tells a reader at the front of s.
func Read(s string) *Reader { return &Reader{text: s} }

// Num takes a number.
func (r *Reader) Num() int {
	if r == nil || r.err != nil {
		return 0
	}
	n, size, cause := front(r.text[r.at:])
	if cause != nil {
		r.err = fault{r.at, cause}
		return 0
	}
	r.at += size
	return n
}

// Int takes a signed number.
func (r *Reader) Int() int {
	n := r.Num()
	if n%2 == 0 {
		return n / 2
	}
	return -(n + 1) / 2
}

// Nums takes how many numbers there are, which is most at most, and these.
func (r *Reader) Nums(most int) []int { return r.list(most, r.Num) }

// Ints takes how many signed numbers there are, which is most at most, and these.
func (r *Reader) Ints(most int) []int { return r.list(most, r.Int) }

// End tells what is wrong, and where; or that nothing is, and how long the bytes are.
func (r *Reader) End() (api.Errno, int) {
	if r == nil {
		return api.ErrArg, 0
	}
	if r.err != nil {
		return told(r.err)
	}
	// The reader doesn't keep this one: it may still take what is left.
	if r.at < len(r.text) {
		return told(fault{r.at, errLeft})
	}
	return api.OK, r.at
}

func (r *Reader) list(most int, one func() int) []int {
	if r == nil || r.err != nil {
		return nil
	}
	at := r.at
	count := r.Num()
	if r.err == nil && count > most {
		r.err = fault{at, errMany}
	}
	if r.err != nil {
		return nil
	}
	// Each number has a byte at least: a count that is above what is left asks for no memory.
	l := make([]int, 0, min(count, len(r.text)-r.at))
	for range count {
		n := one()
		if r.err != nil {
			return nil
		}
		l = append(l, n)
	}
	return l
}

// front tells the number at the front of s, and how many bytes it has; or what is wrong with it.
func front(s string) (int, int, error) {
	n := 0
	for i := range longest {
		if i == len(s) {
			return 0, 0, errCut
		}
		b := s[i]
		n |= int(b&127) << (7 * i)
		if b >= 128 {
			continue
		}
		if b == 0 && i > 0 || n > api.MaxNum {
			return 0, 0, errLong
		}
		return n, i + 1, nil
	}
	return 0, 0, errLong
}
