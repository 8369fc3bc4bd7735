package matroid

import (
	"errors"
	"testing"

	"greenwood/api"
)

func TestWrong(t *testing.T) {
	err := look(api.Matroid{Tag: api.Dual, N: 1, Inner: []api.Matroid{{N: 1, A: 2}}})
	var w wrong
	if !errors.Is(err, errFit) || errors.Is(err, errForm) || !errors.As(err, &w) || w.tag != api.Dual {
		t.Errorf("%v", err)
	}
	if !errors.As(w.error, &w) || w.tag != api.Uniform || w.error != errFit {
		t.Errorf("within: %v", w)
	}
	if s := err.Error(); s != "kind 8: kind 0: "+errFit.Error() {
		t.Errorf("%q", s)
	}
}

func TestTold(t *testing.T) {
	cases := []struct {
		err  error
		want api.Errno
	}{
		{nil, api.OK},
		{errors.New("another one"), api.OK},
		{wrong{errFit, api.Graph}, api.ErrMatroid},
		{wrong{wrong{errKind, 10}, api.Sum}, api.ErrMatroid},
		{wrong{errDeep, api.Dual}, api.ErrDeep},
		{wrong{wrong{errDeep, api.Dual}, api.Sum}, api.ErrDeep},
	}
	for _, c := range cases {
		if got := told(c.err); got != c.want {
			t.Errorf("%v: %d, want %d", c.err, got, c.want)
		}
	}
}

func TestCauses(t *testing.T) {
	cases := []struct {
		m    api.Matroid
		want error
	}{
		{api.Matroid{Tag: 10}, errKind},
		{api.Matroid{N: 65}, errMany},
		{api.Matroid{B: 1}, errForm},
		{api.Matroid{A: 1}, errFit},
	}
	for _, c := range cases {
		if err := look(c.m); !errors.Is(err, c.want) {
			t.Errorf("%v: %v, want %v", c.m, err, c.want)
		}
	}
	if err := look(api.Matroid{}); err != nil {
		t.Errorf("%v", err)
	}
}
