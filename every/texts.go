package every

import "slices"

// search looks for all strings that lead to the end of a machine. It is in all
// places at the same time to which a string may lead, so that it finds each string
// once, in however many ways it matches; and it goes only to places from which
// there is a way to the end, so that each of its steps leads to a string.
type search struct {
	t     *table
	bytes []byte
	most  int
	texts [][]byte
}

// all finds all strings, shorter ones first. It returns false if there are more
// than most.
func (s *search) all() bool {
	start, longest := s.t.m.start, len(s.t.rows)
	for length := range longest + 1 {
		// As all rows are alike, a shorter string begins at a later one.
		at := longest - length
		if s.t.ways[at][start] > 0 && !s.extend(nil, at, []int{start}) {
			return false
		}
	}
	return true
}

// extend finds all strings that begin with prefix, which leads to those places, at
// least one of them with a way to the end. It returns false if there are more than
// most, together with those found before.
func (s *search) extend(prefix []byte, at int, places []int) bool {
	if at == len(s.t.rows) {
		s.texts = append(s.texts, slices.Clone(prefix))
		return len(s.texts) <= s.most
	}
	letters := s.t.letters(at, places)
	for _, b := range s.bytes {
		next := after(letters, b)
		if len(next) > 0 && !s.extend(append(prefix, b), at+1, next) {
			return false
		}
	}
	return true
}

// after returns the places to which b leads from those letters.
func after(letters []*place, b byte) []int {
	var l []int
	for _, x := range letters {
		if x.takes[b] {
			l = append(l, x.first)
		}
	}
	return l
}

// letters returns the letters to which those places lead without a byte, and from
// which there is a way to the end. As all bytes that a letter takes lead to the
// same place, there is a way by each of them.
func (t *table) letters(at int, places []int) []*place {
	v := visit{t: t, at: at, seen: make([]bool, len(t.m.places))}
	for _, p := range places {
		v.enter(p)
	}
	return v.letters
}

// visit goes to places that can be reached without a byte, to each of them once.
type visit struct {
	t       *table
	at      int
	seen    []bool
	letters []*place
}

// enter goes to p, and to the places to which it leads without a byte.
func (v *visit) enter(p int) {
	if v.seen[p] || v.t.ways[v.at][p] == 0 {
		return
	}
	v.seen[p] = true
	x := &v.t.m.places[p]
	switch x.kind {
	case placeLetter:
		v.letters = append(v.letters, x)
	case placeFork:
		v.enter(x.first)
		v.enter(x.second)
	}
}
