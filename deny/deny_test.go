package deny

import (
	"errors"
	"testing"

	"embassy/api"
)

func TestDenialIsFoundBelowWhoMetIt(t *testing.T) {
	var err error = Denial{Code: api.ErrPass}
	for range 3 {
		var d Denial
		if !errors.As(err, &d) || d.Code != api.ErrPass {
			t.Errorf("errors.As in %q gives %+v", err, d)
		}
		err = Met{By: "who met it", Err: err}
	}
}

func TestTexts(t *testing.T) {
	err := Met{By: "New", Err: Met{By: "thread 2", Err: Denial{Code: api.ErrConfig}}}
	if got, want := err.Error(), "New: thread 2: denied with error 1"; got != want {
		t.Errorf("Error = %q, want %q", got, want)
	}
}
