package mat

import "girdle/api"

// table is rows of anything.
type table[T any] [][]T

// wide tells whether all rows are of so many places.
func (a table[T]) wide(n int) bool {
	for _, row := range a {
		if len(row) != n {
			return false
		}
	}
	return true
}

// columns gives the columns of a table, which become rows; without rows there are
// none. ErrShape: rows are of unlike lengths.
func columns[T any](a table[T]) (table[T], api.Errno) {
	width := 0
	if len(a) > 0 {
		width = len(a[0])
	}
	if !a.wide(width) {
		return nil, api.ErrShape
	}
	turned := make(table[T], width)
	for at := range turned {
		turned[at] = make([]T, len(a))
		for i, row := range a {
			turned[at][i] = row[at]
		}
	}
	return turned, api.OK
}

// alike tells whether two tables have as many rows, each of as many places.
func alike[T, U any](a table[T], b table[U]) bool {
	if len(a) != len(b) {
		return false
	}
	for i, row := range a {
		if len(row) != len(b[i]) {
			return false
		}
	}
	return true
}

// rowwise gives what is made of each row; none, if one has an error.
func rowwise[T, U any](a table[T], do func(row []T) (U, api.Errno)) ([]U, api.Errno) {
	made := make([]U, len(a))
	for i, row := range a {
		var e api.Errno
		made[i], e = do(row)
		if e != api.OK {
			return nil, e
		}
	}
	return made, api.OK
}

// rowPairs gives what is made of each two rows of two tables; none, if one has an
// error; ErrShape, ahead of any: these aren't alike.
func rowPairs[T, U, V any](a table[T], b table[U], do func(x []T, y []U) (V, api.Errno)) ([]V, api.Errno) {
	if !alike(a, b) {
		return nil, api.ErrShape
	}
	made := make([]V, len(a))
	for i, row := range a {
		var e api.Errno
		made[i], e = do(row, b[i])
		if e != api.OK {
			return nil, e
		}
	}
	return made, api.OK
}

// product gives what each row of one table and each column of another one come
// to; none, if one has an error; ErrShape, ahead of any: rows are of unlike
// lengths, or there aren't as many columns as the other one has rows.
func product[T any](a, b table[T], dot func(row, column []T) (T, api.Errno)) ([][]T, api.Errno) {
	turned, e := columns(b)
	if e != api.OK {
		return nil, e
	}
	if !a.wide(len(b)) {
		return nil, api.ErrShape
	}
	return rowwise(a, func(row []T) ([]T, api.Errno) {
		return rowwise(turned, func(column []T) (T, api.Errno) { return dot(row, column) })
	})
}

// applied gives what each row of a table and a list come to; none, if one has an
// error; ErrShape, ahead of any: a row isn't of as many places.
func applied[T any](a table[T], x []T, dot func(row, x []T) (T, api.Errno)) ([]T, api.Errno) {
	if !a.wide(len(x)) {
		return nil, api.ErrShape
	}
	return rowwise(a, func(row []T) (T, api.Errno) { return dot(row, x) })
}
