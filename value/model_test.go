package value_test

import (
	"fmt"
	"math/rand"
	"strings"
	"testing"

	"catchpole/core"
	"catchpole/value"
)

// model makes the values of cores, as the chapter tells which there are, so that
// nobody need go through a value and a core side by side. It makes those of each
// core and each size once.
type model struct{ made map[string][]made }

// made is a value of a core, with the bytes in it and whether no iteration of a
// star in it has none.
type made struct {
	v    value.Value
	flat string
	full bool
}

// values are the values of c, which is valid, of exactly that size.
func (m *model) values(c core.Core, size int) []made {
	key := fmt.Sprint(size, core.Text(c))
	if _, ok := m.made[key]; !ok {
		m.made[key] = m.make(c, size)
	}
	return m.made[key]
}

// make makes the values of c, which is valid, of exactly that size.
func (m *model) make(c core.Core, size int) []made {
	var all []made
	switch {
	case size < 1:
	case c.Kind == 1 && size == 1:
		all = append(all, made{v: empty(), full: true})
	case c.Kind == 2 && size == 1:
		for b := range 256 {
			if c.Set.Has(byte(b)) {
				all = append(all, made{letter(byte(b)), string([]byte{byte(b)}), true})
			}
		}
	case c.Kind == 3:
		for first := 1; first < size; first++ {
			for _, x := range m.values(c.L[0], first) {
				for _, y := range m.values(c.L[1], size-1-first) {
					all = append(all, made{concat(x.v, y.v), x.flat + y.flat, x.full && y.full})
				}
			}
		}
	case c.Kind == 4:
		for _, x := range m.values(c.L[0], size-1) {
			all = append(all, made{left(x.v), x.flat, x.full})
		}
		for _, x := range m.values(c.L[1], size-1) {
			all = append(all, made{right(x.v), x.flat, x.full})
		}
	case c.Kind == 5:
		if size == 1 {
			all = append(all, made{v: star(), full: true})
		}
		// A star of one iteration more has that one first.
		for first := 1; first < size; first++ {
			for _, x := range m.values(c.L[0], first) {
				for _, y := range m.values(c, size-first) {
					l := append([]value.Value{x.v}, y.v.L...)
					all = append(all, made{star(l...), x.flat + y.flat, x.full && y.full && x.flat != ""})
				}
			}
		}
	case c.Kind == 6:
		for _, x := range m.values(c.L[0], size-1) {
			all = append(all, made{group(x.v), x.flat, x.full})
		}
	case c.Kind == 7:
		all = m.values(c.L[0], size)
	}
	return all
}

// modelFlat is the bytes of v, as the chapter tells it.
func modelFlat(v value.Value) string {
	text := ""
	for _, x := range v.L[:min(len(v.L), counts(v.Kind))] {
		text += modelFlat(x)
	}
	if v.Kind == 2 {
		return string([]byte{v.B})
	}
	return text
}

// modelSize is the size of v, as the chapter tells it.
func modelSize(v value.Value) int {
	size := 1
	for _, x := range v.L[:min(len(v.L), counts(v.Kind))] {
		size += modelSize(x)
	}
	return size
}

// counts is how many elements of L count for that kind, at most.
func counts(kind int) int {
	if kind < 0 || kind > 7 {
		return 0
	}
	return []int{0, 0, 0, 2, 1, 1, 1 << 30, 1}[kind]
}

// modelText is the text of v, as the chapter tells it.
func modelText(v value.Value) string {
	var l []string
	for _, x := range v.L[:min(len(v.L), counts(v.Kind))] {
		l = append(l, modelText(x))
	}
	all := strings.Join(l, ",")
	switch v.Kind {
	case 1:
		return "E"
	case 2:
		return fmt.Sprintf("%02x", v.B)
	case 3:
		l = append(l, "", "")
		return "(" + l[0] + "," + l[1] + ")"
	case 4:
		return "L" + all
	case 5:
		return "R" + all
	case 6:
		return "[" + all + "]"
	case 7:
		return "<" + all + ">"
	}
	return "?"
}

// wantModel asks for what hangs on v alone.
func wantModel(t *testing.T, v value.Value) {
	t.Helper()
	if got := value.Flat(v); string(got) != modelFlat(v) {
		t.Errorf("Flat of %s: %q, want %q", show(v), got, modelFlat(v))
	}
	if got := value.Len(v); got != len(modelFlat(v)) {
		t.Errorf("Len of %s: %d, want %d", show(v), got, len(modelFlat(v)))
	}
	if got := value.Text(v); got != modelText(v) {
		t.Errorf("Text of %s: %q, want %q", show(v), got, modelText(v))
	}
	if got := value.Size(v); got != modelSize(v) {
		t.Errorf("Size of %s: %d, want %d", show(v), got, modelSize(v))
	}
}

// smallCores are the cores of each size up to that one, with one set, and with
// a group and a renewal among those of one element.
func smallCores(most int) [][]core.Core {
	all := [][]core.Core{nil, {coreNothing(), coreEmpty(), coreSet("a"), coreSet("")}}
	for size := 2; size <= most; size++ {
		var l []core.Core
		for _, c := range all[size-1] {
			l = append(l, coreStar(c), coreGroup(size, c), coreRenewal(c))
		}
		for first := 1; first < size-1; first++ {
			for _, a := range all[first] {
				for _, b := range all[size-1-first] {
					l = append(l, coreConcat(a, b), coreAlternative(a, b))
				}
			}
		}
		all = append(all, l)
	}
	return all
}

// smallValues are all values of that many parts, good ones and others, with
// kinds from 0 to 8. B is that of a letter a, or zero, where it is not wrong.
func smallValues(size int) []value.Value {
	var all []value.Value
	for _, l := range smallLists(size - 1) {
		for kind := range 9 {
			all = append(all, value.Value{Kind: kind, L: l}, value.Value{Kind: kind, B: 'a', L: l})
		}
	}
	return all
}

// smallLists are all lists of values that have so many parts together.
func smallLists(size int) [][]value.Value {
	if size == 0 {
		return [][]value.Value{nil}
	}
	var all [][]value.Value
	for first := 1; first <= size; first++ {
		for _, rest := range smallLists(size - first) {
			for _, v := range smallValues(first) {
				all = append(all, append([]value.Value{v}, rest...))
			}
		}
	}
	return all
}

// told are the texts of values, and whether they are full ones.
func told(l []made) map[string]bool {
	all := map[string]bool{}
	for _, x := range l {
		all[show(x.v)] = x.full
	}
	return all
}

// TestAllSmallValues asks all small cores of all small values.
func TestAllSmallValues(t *testing.T) {
	m := model{map[string][]made{}}
	cores := smallCores(4)
	good, full, all := 0, 0, 0
	for size := 1; size <= 3; size++ {
		values := smallValues(size)
		var texts []string
		for _, v := range values {
			wantModel(t, v)
			texts = append(texts, show(v))
		}
		for _, l := range cores {
			for _, c := range l {
				want := told(m.values(c, size))
				for i, v := range values {
					isFull, isGood := want[texts[i]]
					if value.Good(c, v) != isGood || value.Full(c, v) != isFull {
						t.Errorf("Good, Full of %s and %s: %v, %v", showCore(c), show(v), value.Good(c, v), value.Full(c, v))
					}
					if isGood {
						good++
					}
					if isFull {
						full++
					}
					all++
				}
			}
		}
	}
	// The values aren't all of one sort.
	if good < 300 || full == good || good == all {
		t.Errorf("%d of %d are good, and %d full", good, all, full)
	}
}

// TestValuesOfSmallCores asks of all values of small cores, up to a size, and
// of the same with a fault, which may belong to them in another way.
func TestValuesOfSmallCores(t *testing.T) {
	m := model{map[string][]made{}}
	r := rand.New(rand.NewSource(10))
	good := 0
	for _, l := range smallCores(5) {
		for _, c := range l {
			var values []made
			for size := range 8 {
				values = append(values, m.values(c, size)...)
			}
			want := told(values)
			for _, x := range values {
				good++
				if !value.Good(c, x.v) || value.Full(c, x.v) != x.full {
					t.Errorf("Good, Full of %s and %s: %v, %v", showCore(c), show(x.v), value.Good(c, x.v), value.Full(c, x.v))
				}
				if got := value.Flat(x.v); string(got) != x.flat || value.Len(x.v) != len(x.flat) {
					t.Errorf("Flat of %s: %q, want %q", show(x.v), got, x.flat)
				}
				wantModel(t, x.v)
				wrong := drawnFault(r, x.v)
				if isFull, isGood := want[show(wrong)]; parts(wrong) < 8 && (value.Good(c, wrong) != isGood || value.Full(c, wrong) != isFull) {
					t.Errorf("Good, Full of %s and %s: %v, %v", showCore(c), show(wrong), value.Good(c, wrong), value.Full(c, wrong))
				}
				wantModel(t, wrong)
			}
		}
	}
	if good < 10000 {
		t.Errorf("%d values of all small cores", good)
	}
}

// drawnFault is v with a change at one place.
func drawnFault(r *rand.Rand, v value.Value) value.Value {
	wrong := clone(v)
	part := partAt(&wrong, r.Intn(parts(wrong)))
	switch r.Intn(5) {
	case 0:
		part.Kind = r.Intn(9)
	case 1:
		part.B = []byte{0, 1, 'a', 'b'}[r.Intn(4)]
	case 2:
		part.L = part.L[:r.Intn(len(part.L)+1)]
	case 3:
		part.L = append(part.L, []value.Value{{}, empty(), letter('a'), star()}[r.Intn(4)])
	case 4:
		all := changes()
		all[r.Intn(len(all))](part)
	}
	return wrong
}

// TestSameOfSmallValues asks of all pairs of small values.
func TestSameOfSmallValues(t *testing.T) {
	all := append(smallValues(1), smallValues(2)...)
	for i, a := range all {
		for j, b := range all {
			if got := value.Same(a, b); got != (i == j) {
				t.Errorf("Same of %s and %s: %v", show(a), show(b), got)
			}
		}
	}
	three := smallValues(3)
	for i, a := range three {
		for _, j := range []int{0, i, i + 1, i + 9, i + 18, i + 19, len(three) - 1 - i} {
			if j = min(j, len(three)-1); value.Same(a, three[j]) != (i == j) {
				t.Errorf("Same of %s and %s: %v", show(a), show(three[j]), i != j)
			}
		}
	}
}

// drawnMatch is a core of about that size with a value of it.
func drawnMatch(r *rand.Rand, size int) match {
	if size < 2 {
		if r.Intn(4) == 0 {
			return match{coreEmpty(), empty()}
		}
		text := []string{"a", "b", "abc", "\x00\xff"}[r.Intn(4)]
		return match{coreSet(text), letter(text[r.Intn(len(text))])}
	}
	x := drawnMatch(r, size-1)
	half := func() match { return drawnMatch(r, size/2) }
	switch r.Intn(8) {
	case 0, 1:
		a, b := half(), half()
		return match{coreConcat(a.c, b.c), concat(a.v, b.v)}
	case 2:
		a, b := half(), half()
		return match{coreAlternative(a.c, b.c), left(a.v)}
	case 3:
		a, b := half(), half()
		return match{coreAlternative(a.c, b.c), right(b.v)}
	case 4, 5:
		v := star()
		for range r.Intn(4) {
			v.L = append(v.L, x.v)
		}
		return match{coreStar(x.c), v}
	case 6:
		return match{coreGroup(1+r.Intn(32), x.c), group(x.v)}
	}
	return match{coreRenewal(x.c), x.v}
}

// TestDrawnMatches asks of larger cores with values of them.
func TestDrawnMatches(t *testing.T) {
	r := rand.New(rand.NewSource(11))
	full := 0
	for range 5000 {
		m := drawnMatch(r, 1+r.Intn(14))
		if parts(m.v) > 3000 {
			continue
		}
		want := modelFull(m.v)
		wantMatch(t, m, true, want)
		wantModel(t, m.v)
		wantModel(t, drawnFault(r, m.v))
		if want {
			full++
		}
	}
	if full < 1000 || full > 4500 {
		t.Errorf("%d drawn values are full", full)
	}
}

// modelFull tells whether no iteration of a star in v, a value without faults,
// has no byte.
func modelFull(v value.Value) bool {
	for _, x := range v.L {
		if !modelFull(x) || v.Kind == 6 && modelFlat(x) == "" {
			return false
		}
	}
	return true
}
