package every

import (
	"slices"

	"catchpole/core"
)

// unknown is a number of ways that is not yet counted.
const unknown = -1

// table tells how many ways there are from each place of a machine to its end. It
// keeps from going where there are none, so that what does not match costs no more
// than what does.
type table struct {
	m     *machine
	rows  [][]byte // the bytes that may be read, one after the other
	limit int      // what a greater number is counted as
	ways  [][]int  // of each place, with each number of bytes read
}

// tableOf returns the table of c, which is valid, for ways that read exactly s.
func tableOf(c core.Core, s []byte, limit int) *table {
	var rows [][]byte
	for i := range s {
		rows = append(rows, s[i:i+1])
	}
	return fill(machineOf(c, s), rows, limit)
}

// textsTable returns the table of c, which is valid, for ways that read n bytes,
// each of them one of those. It tells no more than whether there is any way.
func textsTable(c core.Core, bytes []byte, n int) *table {
	return fill(machineOf(c, bytes), slices.Repeat([][]byte{bytes}, n), 1)
}

// fill returns the table of m.
func fill(m *machine, rows [][]byte, limit int) *table {
	t := &table{m: m, rows: rows, limit: limit, ways: make([][]int, len(rows)+1)}
	for at := len(rows); at >= 0; at-- {
		t.ways[at] = slices.Repeat([]int{unknown}, len(m.places))
		for p := range m.places {
			t.count(at, p)
		}
	}
	return t
}

// count returns the number of ways from p with at bytes read. It asks for the
// places that p leads to without a byte, and for the next row, which is full.
func (t *table) count(at, p int) int {
	if t.ways[at][p] == unknown {
		t.ways[at][p] = min(t.sum(at, p), t.limit)
	}
	return t.ways[at][p]
}

// sum adds up the ways from p with at bytes read.
func (t *table) sum(at, p int) int {
	x := &t.m.places[p]
	switch {
	case x.kind == placeFork:
		return t.count(at, x.first) + t.count(at, x.second)
	case x.kind == placeLetter && at < len(t.rows):
		sum := 0
		for _, b := range t.rows[at] {
			if x.takes[b] {
				sum += t.ways[at+1][x.first]
			}
		}
		return sum
	case p == end && at == len(t.rows):
		return 1
	}
	return 0
}

// total returns the number of all ways through the core.
func (t *table) total() int { return t.ways[0][t.m.start] }
