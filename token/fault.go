package token

import (
	"errors"
	"strconv"
)

// What may be wrong with a text.
var (
	errOther = errors.New("it begins as one of the other kind")
	errForm  = errors.New("it has no token's form")
	errCheck = errors.New("its check is another one")
)

// fault is what is wrong with a text, and of which kind that was to be.
type fault struct {
	kind  int
	wrong error
}

func (f fault) Error() string {
	return "token: no text of the kind " + strconv.Itoa(f.kind) + ": " + f.wrong.Error()
}

func (f fault) Unwrap() error { return f.wrong }
