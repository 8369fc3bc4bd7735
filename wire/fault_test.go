package wire

import (
	"errors"
	"testing"

	"greenwood/api"
)

func TestFault(t *testing.T) {
	r := Read("\x01\x80\x00")
	r.Num()
	r.Num()
	var f fault
	if !errors.Is(r.err, errLong) || errors.Is(r.err, errCut) || !errors.As(r.err, &f) || f.at != 1 {
		t.Errorf("%v", r.err)
	}
	if s := r.err.Error(); s != "byte 1: "+errLong.Error() {
		t.Errorf("%q", s)
	}
	if e, at := told(errors.New("another one")); e != api.OK || at != 0 {
		t.Errorf("of another package's error: %d at %d", e, at)
	}
}
