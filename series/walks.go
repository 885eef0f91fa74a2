package series

import (
	"girdle/api"
	"girdle/ratio"
	"girdle/span"
)

// remainder gives a table of what may be left behind so many terms: nothing at
// places that those don't reach.
func remainder(a [][]api.Rat, count int, left api.Dyad) [][]api.Span {
	all := zeros(len(a))
	for i, row := range reached(a, count) {
		for j, yes := range row {
			if yes {
				all[i][j] = span.Even(left)
			}
		}
	}
	return all
}

// reached tells which places a table's powers reach, from so many factors on: those
// to which a walk of so many places that aren't 0, or more, leads.
func reached(a [][]api.Rat, count int) [][]bool {
	walks := make([][]bool, len(a))
	for i := range walks {
		walks[i] = make([]bool, len(a))
		walks[i][i] = true
	}
	for range count {
		walks = further(walks, a, false)
	}
	for range a {
		walks = further(walks, a, true)
	}
	return walks
}

// further gives where walks lead by one place more, or, if stay, by one at most.
func further(walks [][]bool, a [][]api.Rat, stay bool) [][]bool {
	all := make([][]bool, len(walks))
	for i, row := range walks {
		all[i] = make([]bool, len(row))
		for at, yes := range row {
			if !yes {
				continue
			}
			for j, x := range a[at] {
				all[i][j] = all[i][j] || ratio.Sign(x) != 0 || stay && j == at
			}
		}
	}
	return all
}
