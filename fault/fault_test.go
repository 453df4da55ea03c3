package fault

import (
	"testing"

	"apodixis/api"
)

// P1, as the layers that leave work with an error need it: nothing else than its code is told, whatever stops the work.
func TestGuard(t *testing.T) {
	var none []int
	done := false
	for name, x := range map[string]struct {
		work func()
		want api.Errno
	}{
		"nothing":              {func() {}, api.OK},
		"an error":             {func() { Raise(api.ErrForm) }, api.ErrForm},
		"one that is passed":   {func() { Pass(api.ErrLarge) }, api.ErrLarge},
		"none":                 {func() { Pass(api.OK); Require(true, api.ErrForm) }, api.OK},
		"what does not hold":   {func() { Require(false, api.ErrSize) }, api.ErrSize},
		"one inside":           {func() { Pass(Guard(api.ErrArg, func() { Raise(api.ErrNone) })) }, api.ErrNone},
		"one that is left out": {func() { Guard(api.ErrArg, func() { Raise(api.ErrNone) }) }, api.OK},
		"another panic":        {func() { panic("no") }, api.ErrState},
		"an index":             {func() { none[len(none)]++ }, api.ErrState},
		"all of it":            {func() { done = true }, api.OK},
	} {
		if e := Guard(api.ErrState, x.work); e != x.want {
			t.Errorf("%s: %d, want %d", name, e, x.want)
		}
	}
	if !done {
		t.Error("work that was not done")
	}
}
