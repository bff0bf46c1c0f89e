package codec

import (
	"errors"
	"testing"

	"latchkey/api"
)

// A fault is an error that errors.As finds, also behind others.
func TestFaultIsFound(t *testing.T) {
	wrong := errors.Join(errors.New("other"), fault{api.ErrCodecLong})
	var f fault
	if !errors.As(wrong, &f) || f.number != api.ErrCodecLong {
		t.Errorf("found %v", f)
	}
	if f.Error() != "codec: error 21" {
		t.Errorf("told as %q", f.Error())
	}
}
