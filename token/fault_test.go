package token

import (
	"errors"
	"testing"

	"latchkey/api"
)

// What is wrong is wrapped by what tells of which kind a text was to be, and is just one of the three.
func TestFaultIsWrapped(t *testing.T) {
	good := text(api.Refresh, 7, "ssssssssssssssssssssssss")
	for _, k := range []struct {
		kind int
		s    string
		want error
		told string
	}{
		{api.Refresh, grantPrefix, errOther, "token: no text of the kind 1: it begins as one of the other kind"},
		{api.Grant, good, errOther, "token: no text of the kind 2: it begins as one of the other kind"},
		{api.Grant, "", errForm, "token: no text of the kind 2: it has no token's form"},
		{api.Refresh, good + "A", errForm, "token: no text of the kind 1: it has no token's form"},
		{api.Refresh, good[:51] + "w", errCheck, "token: no text of the kind 1: its check is another one"},
	} {
		id, secret, err := readAs(k.kind, k.s)
		if id != 0 || secret != "" || err == nil || err.Error() != k.told {
			t.Fatalf("readAs(%d, %q): %d, %q, %v", k.kind, k.s, id, secret, err)
		}
		var f fault
		if !errors.As(err, &f) || f.kind != k.kind || errors.Unwrap(err) != k.want {
			t.Errorf("%v: found %v", err, f)
		}
		for _, one := range []error{errOther, errForm, errCheck} {
			if errors.Is(err, one) != (one == k.want) {
				t.Errorf("%v: is it %v?", err, one)
			}
		}
	}
}

// Of a right text nothing is wrong.
func TestNoFault(t *testing.T) {
	for kind := api.Refresh; kind <= api.Grant; kind++ {
		s := text(kind, 7, "ssssssssssssssssssssssss")
		if id, secret, err := readAs(kind, s); id != 7 || secret != "ssssssssssssssssssssssss" || err != nil {
			t.Errorf("readAs(%d, %q): %d, %q, %v", kind, s, id, secret, err)
		}
	}
	if textSize != 52 || prefixSize != len(grantPrefix) || bodySize != 36 {
		t.Errorf("%d, %d, %d", textSize, prefixSize, bodySize)
	}
}
