package mld

import "siphon/api"

// fault is the first error that a reader or a writer met.
type fault struct {
	e api.Errno
}

// keep takes an error, if there is none yet.
func (f *fault) keep(e api.Errno) {
	if f.e == api.OK {
		f.e = e
	}
}

// need keeps an error where what must hold does not.
func (f *fault) need(holds bool, e api.Errno) {
	if !holds {
		f.keep(e)
	}
}
