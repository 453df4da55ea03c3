// Package fault leaves work with an error, which is told where the work was asked for. It is no layer.
package fault

import "apodixis/api"

// fault is what work is left with.
type fault struct{ code api.Errno }

// Raise leaves with an error.
func Raise(e api.Errno) { panic(fault{e}) }

// Pass leaves with an error, if it is one.
func Pass(e api.Errno) {
	if e != api.OK {
		Raise(e)
	}
}

// Require leaves with an error, if something does not hold.
func Require(holds bool, e api.Errno) {
	if !holds {
		Raise(e)
	}
}

// Guard returns the error that work is left with; other stands for whatever else stops it.
func Guard(other api.Errno, work func()) (e api.Errno) {
	defer func() {
		switch x := recover().(type) {
		case nil:
		case fault:
			e = x.code
		default:
			e = other
		}
	}()
	work()
	return api.OK
}
