package vec

import "girdle/api"

// each gives what is made of each place of a list; none, if one has an error.
func each[T, U any](a []T, do func(x T) (U, api.Errno)) ([]U, api.Errno) {
	made := make([]U, len(a))
	for i, x := range a {
		var e api.Errno
		made[i], e = do(x)
		if e != api.OK {
			return nil, e
		}
	}
	return made, api.OK
}

// pairwise gives what is made of each two places of two lists; none, if one has
// an error; ErrShape: the lists are of unlike lengths.
func pairwise[T, U, V any](a []T, b []U, do func(x T, y U) (V, api.Errno)) ([]V, api.Errno) {
	if len(a) != len(b) {
		return nil, api.ErrShape
	}
	made := make([]V, len(a))
	for i, x := range a {
		var e api.Errno
		made[i], e = do(x, b[i])
		if e != api.OK {
			return nil, e
		}
	}
	return made, api.OK
}
