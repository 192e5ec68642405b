package lang_test

import (
	"math/rand"
	"slices"
	"testing"

	"catchpole/byteset"
	"catchpole/core"
	"catchpole/lang"
)

// table tells for all i and j whether c matches s from i to j, written from the
// chapter.
func table(c core.Core, s string) [][]bool {
	var l [][][]bool
	for _, x := range c.L {
		l = append(l, table(x, s))
	}
	t := make([][]bool, len(s)+1)
	// What a star matches from a place hangs on what it matches from later ones.
	for i := len(s); i >= 0; i-- {
		t[i] = make([]bool, len(s)+1)
		for j := i; j <= len(s); j++ {
			t[i][j] = holds(c, s, i, j, l, t)
		}
	}
	return t
}

// holds tells whether c matches s from i to j. The tables are those of its
// elements, and its own of what begins after i.
func holds(c core.Core, s string, i, j int, l [][][]bool, own [][]bool) bool {
	switch c.Kind {
	case 1:
		return i == j
	case 2:
		return j == i+1 && c.Set.Has(s[i])
	case 3:
		for k := i; k <= j; k++ {
			if l[0][i][k] && l[1][k][j] {
				return true
			}
		}
	case 4:
		return l[0][i][j] || l[1][i][j]
	case 5:
		for k := i + 1; k <= j; k++ {
			if l[0][i][k] && own[k][j] {
				return true
			}
		}
		return i == j
	case 6, 7:
		return l[0][i][j]
	}
	return false
}

// words are the strings of at most so many bytes that c matches, without asking
// of any given string.
func words(c core.Core, most int) map[string]bool {
	all := map[string]bool{}
	switch c.Kind {
	case 1:
		all[""] = true
	case 2:
		for _, b := range c.Set.List() {
			if most > 0 {
				all[string([]byte{b})] = true
			}
		}
	case 3:
		all = products(words(c.L[0], most), words(c.L[1], most), most)
	case 4:
		for _, x := range c.L {
			for w := range words(x, most) {
				all[w] = true
			}
		}
	case 5:
		all[""] = true
		once := words(c.L[0], most)
		for range most {
			for w := range products(all, once, most) {
				all[w] = true
			}
		}
	case 6, 7:
		all = words(c.L[0], most)
	}
	return all
}

// products are the strings of at most so many bytes that are one of a, and one
// of b behind it.
func products(a, b map[string]bool, most int) map[string]bool {
	all := map[string]bool{}
	for v := range a {
		for w := range b {
			if len(v)+len(w) <= most {
				all[v+w] = true
			}
		}
	}
	return all
}

// firsts are the first bytes of words.
func firsts(words map[string]bool) byteset.Set {
	var s byteset.Set
	for w := range words {
		if w != "" {
			s = s.Or(byteset.Of(w[0]))
		}
	}
	return s
}

// stringsOf are the strings of those letters of at most so many bytes, shorter
// ones first.
func stringsOf(letters string, most int) []string {
	all := []string{""}
	last := all
	for range most {
		var longer []string
		for _, s := range last {
			for _, b := range letters {
				longer = append(longer, s+string(b))
			}
		}
		all, last = append(all, longer...), longer
	}
	return all
}

// wantTable asks for all that the table of c and s tells.
func wantTable(t *testing.T, c core.Core, s string) {
	t.Helper()
	want := table(c, s)
	for from := range len(s) + 1 {
		var ends []int
		for i, ok := range want[from] {
			if ok {
				ends = append(ends, i)
			}
		}
		if got := lang.Ends(c, []byte(s), from); !slices.Equal(got, ends) {
			t.Errorf("Ends of %s in %q from %d: %v, want %v", core.Text(c), s, from, got, ends)
		}
		if got := lang.Says(c, []byte(s[from:])); got != want[from][len(s)] {
			t.Errorf("Says of %s and %q: %v", core.Text(c), s[from:], got)
		}
	}
	if got := lang.Null(c); got != want[0][0] {
		t.Errorf("Null of %s: %v", core.Text(c), got)
	}
}

// wantWords asks for all that the words of c tell. A core matches a string with
// a given first byte just if it matches one of no more bytes than c has sets, as
// no iteration of a star but one is needed.
func wantWords(t *testing.T, c core.Core, letters string, most int) {
	t.Helper()
	all := words(c, most)
	if got := lang.First(c); got != firsts(all) {
		t.Errorf("First of %s: %q, want %q", core.Text(c), got.List(), firsts(all).List())
	}
	if got := lang.Null(c); got != all[""] {
		t.Errorf("Null of %s: %v", core.Text(c), got)
	}
	for _, s := range stringsOf(letters, most) {
		if got := lang.Says(c, []byte(s)); got != all[s] {
			t.Errorf("Says of %s and %q: %v", core.Text(c), s, got)
		}
	}
}

// cores are all valid cores of each size up to that one, with sets of the
// letters a and b.
func cores(most int) [][]core.Core {
	all := [][]core.Core{nil, {nothing(), empty(), set(""), set("a"), set("b"), set("ab")}}
	for size := 2; size <= most; size++ {
		var l []core.Core
		for _, c := range all[size-1] {
			l = append(l, star(c), group(size, c), renewal(c))
		}
		for left := 1; left < size-1; left++ {
			for _, a := range all[left] {
				for _, b := range all[size-1-left] {
					l = append(l, concat(a, b), alternative(a, b))
				}
			}
		}
		all = append(all, l)
	}
	return all
}

func TestAllSmallCores(t *testing.T) {
	texts := append(stringsOf("abc", 2), "aabb", "abab", "baab", "bbba", "aaaa", "cab", "abcab")
	null, said := 0, 0
	for size, l := range cores(5) {
		for _, c := range l {
			for _, s := range texts {
				wantTable(t, c, s)
			}
			wantWords(t, c, "ab", min(size, 4))
			if lang.Null(c) {
				null++
			}
			if lang.Says(c, []byte("ab")) {
				said++
			}
		}
	}
	// The cores aren't ones that match nothing, or all.
	if null < 1000 || said < 500 {
		t.Errorf("%d cores match the empty string, and %d match ab", null, said)
	}
}

// drawn is a core of that size, with sets of the letters a to c.
func drawn(r *rand.Rand, size int) core.Core {
	switch {
	case size == 1 && r.Intn(8) == 0:
		return []core.Core{nothing(), set("")}[r.Intn(2)]
	case size == 1 && r.Intn(4) == 0:
		return empty()
	case size == 1:
		return set([]string{"a", "b", "c", "ab", "bc", "abc"}[r.Intn(6)])
	case size == 2 || r.Intn(3) == 0:
		x := drawn(r, size-1)
		return []core.Core{star(x), star(x), group(1+r.Intn(32), x), renewal(x)}[r.Intn(4)]
	}
	left := 1 + r.Intn(size-2)
	a, b := drawn(r, left), drawn(r, size-1-left)
	return []core.Core{concat(a, b), concat(a, b), alternative(a, b)}[r.Intn(3)]
}

// drawnString is a string of that many of the letters.
func drawnString(r *rand.Rand, letters string, length int) string {
	s := make([]byte, length)
	for i := range s {
		s[i] = letters[r.Intn(len(letters))]
	}
	return string(s)
}

func TestDrawnCores(t *testing.T) {
	r := rand.New(rand.NewSource(9))
	for range 3000 {
		c := drawn(r, 1+r.Intn(60))
		wantTable(t, c, drawnString(r, "ab", r.Intn(12)))
		wantTable(t, c, drawnString(r, "abcd", r.Intn(12)))
		wantTable(t, c, drawnString(r, "c", r.Intn(12)))
	}
	for range 3000 {
		wantWords(t, drawn(r, 1+r.Intn(10)), "abc", 5)
	}
	for range 10 {
		wantTable(t, drawn(r, 20), drawnString(r, "ab", 100))
	}
}

// TestDrawnLargeCores asks of cores of about MaxCore parts.
func TestDrawnLargeCores(t *testing.T) {
	r := rand.New(rand.NewSource(10))
	for range 20 {
		wantTable(t, drawn(r, 1980+r.Intn(21)), drawnString(r, "abc", 20))
	}
}
