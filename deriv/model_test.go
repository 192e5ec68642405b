package deriv_test

import (
	"math/rand"
	"testing"

	"catchpole/api"
	"catchpole/core"
	"catchpole/deriv"
	"catchpole/lang"
)

// modelDerivative is the derivative as the chapter says it, before Tidy.
func modelDerivative(c core.Core, b byte) core.Core {
	switch c.Kind {
	case 2:
		if c.Set.Has(b) {
			return empty()
		}
		return nothing()
	case 3:
		after := concat(modelDerivative(c.L[0], b), c.L[1])
		if lang.Null(c.L[0]) {
			return alternative(after, modelDerivative(c.L[1], b))
		}
		return after
	case 4:
		return alternative(modelDerivative(c.L[0], b), modelDerivative(c.L[1], b))
	case 5:
		return concat(modelDerivative(c.L[0], b), c)
	case 6, 7:
		return modelDerivative(c.L[0], b)
	}
	return nothing()
}

// rules are the rules of Tidy, each for a core alone: what it becomes, and whether
// the rule is about it.
var rules = []func(c core.Core) (core.Core, bool){
	func(c core.Core) (core.Core, bool) { return nothing(), c.Kind == 2 && c.Set.Len() == 0 },
	func(c core.Core) (core.Core, bool) { return nothing(), c.Kind == 3 && has(c, 0) },
	func(c core.Core) (core.Core, bool) { return beside(c, 1), c.Kind == 3 && has(c, 1) },
	func(c core.Core) (core.Core, bool) { return beside(c, 0), c.Kind == 4 && has(c, 0) },
	func(c core.Core) (core.Core, bool) { return beside(c, -1), c.Kind == 4 && core.Same(c.L[0], c.L[1]) },
	func(c core.Core) (core.Core, bool) { return empty(), c.Kind == 5 && (has(c, 0) || has(c, 1)) },
	func(c core.Core) (core.Core, bool) { return beside(c, -1), c.Kind == 5 && has(c, 5) },
	func(c core.Core) (core.Core, bool) { return beside(c, -1), c.Kind == 6 || c.Kind == 7 },
}

// has tells whether c has an element of that kind.
func has(c core.Core, kind int) bool {
	for _, x := range c.L {
		if x.Kind == kind {
			return true
		}
	}
	return false
}

// beside is the other element than one of that kind, if there is another.
func beside(c core.Core, kind int) core.Core {
	for i, x := range c.L {
		if x.Kind == kind && len(c.L) == 2 {
			return c.L[1-i]
		}
	}
	if len(c.L) == 0 {
		return nothing()
	}
	return c.L[0]
}

// modelTidy applies the rules to the elements of c, and then to c till none is
// about it.
func modelTidy(c core.Core) core.Core {
	var l []core.Core
	for _, x := range c.L {
		l = append(l, modelTidy(x))
	}
	c.L = l
	for again := true; again; {
		again = false
		for _, rule := range rules {
			if after, ok := rule(c); ok {
				c, again = after, true
				break
			}
		}
	}
	return c
}

// modelBy is the derivative after Tidy, of whatever size.
func modelBy(c core.Core, b byte) core.Core { return modelTidy(modelDerivative(c, b)) }

// modelWord is the derivative by each byte of s, or the first error.
func modelWord(c core.Core, s string) (core.Core, api.Errno) {
	if s == "" {
		return modelTidy(c), api.OK
	}
	for _, b := range []byte(s) {
		c = modelBy(c, b)
		if core.Size(c) > api.MaxCore {
			return core.Core{}, api.ELARGE
		}
	}
	return c, api.OK
}

// stringsOf are the strings of those bytes of at most so many of them.
func stringsOf(bytes string, most int) []string {
	all := []string{""}
	last := all
	for range most {
		var longer []string
		for _, s := range last {
			for _, b := range []byte(bytes) {
				longer = append(longer, s+string([]byte{b}))
			}
		}
		all, last = append(all, longer...), longer
	}
	return all
}

// wantModel asks for all that the model tells of a core.
func wantModel(t *testing.T, c core.Core, bytes string) {
	t.Helper()
	wantTidy(t, c, modelTidy(c))
	for _, b := range []byte(bytes) {
		if want := modelBy(c, b); core.Size(want) > api.MaxCore {
			wantError(t, c, b, api.ELARGE)
		} else {
			wantBy(t, c, b, want)
			wantTidy(t, want, want)
		}
	}
}

// wantLanguage asks that a derivative matches what follows the byte in what the
// core matches, and that Tidy leaves that as it is.
func wantLanguage(t *testing.T, c core.Core, bytes string, texts []string) {
	t.Helper()
	tidy := deriv.Tidy(c)
	for _, s := range texts {
		if lang.Says(tidy, []byte(s)) != lang.Says(c, []byte(s)) {
			t.Errorf("Tidy of %s: %s, which tells otherwise of %q", show(c), show(tidy), s)
		}
	}
	for _, b := range []byte(bytes) {
		after, err := deriv.By(c, b)
		if err == api.ELARGE {
			continue
		}
		for _, s := range texts {
			if lang.Says(after, []byte(s)) != lang.Says(c, append([]byte{b}, s...)) {
				t.Errorf("By of %s and %q: %s, %v, which tells otherwise of %q", show(c), b, show(after), err, s)
			}
		}
	}
}

// smallCores are the cores of each size up to that one, with sets of the letters a
// and b, with a group and a renewal among those of one element.
func smallCores(most int) [][]core.Core {
	all := [][]core.Core{nil, {nothing(), empty(), set("a"), set("ab"), set("")}}
	for size := 2; size <= most; size++ {
		var l []core.Core
		for _, c := range all[size-1] {
			l = append(l, star(c), group(size, c), renewal(c))
		}
		for first := 1; first < size-1; first++ {
			for _, a := range all[first] {
				for _, b := range all[size-1-first] {
					l = append(l, concat(a, b), alternative(a, b))
				}
			}
		}
		all = append(all, l)
	}
	return all
}

// TestSmallCores asks of all small cores.
func TestSmallCores(t *testing.T) {
	texts := stringsOf("ab", 2)
	words := []string{"aa", "ab", "ba", "aba", "aaaa"}
	asked := 0
	for size, l := range smallCores(5) {
		for _, c := range l {
			wantModel(t, c, "abc")
			if size < 5 {
				wantLanguage(t, c, "abc", texts)
			}
			for _, s := range words {
				want, none := modelWord(c, s)
				if got, err := deriv.Word(c, []byte(s)); err != none || !core.Same(got, want) {
					t.Errorf("Word of %s and %q: %s, %v, want %s, %v", show(c), s, show(got), err, show(want), none)
				}
			}
			asked++
		}
	}
	if asked < 4000 {
		t.Errorf("%d cores", asked)
	}
}

// drawnCore is a core of about that size. One of so many of its innermost parts is
// no set that matches a byte.
func drawnCore(r *rand.Rand, size, bare int) core.Core {
	if size < 2 {
		if r.Intn(bare) == 0 {
			return []core.Core{empty(), empty(), nothing(), set("")}[r.Intn(4)]
		}
		return set([]string{"a", "b", "ab", "abc", "c"}[r.Intn(5)])
	}
	first := 1 + r.Intn(size-1)
	switch r.Intn(7) {
	case 0, 1:
		return concat(drawnCore(r, first, bare), drawnCore(r, size-first, bare))
	case 2:
		return alternative(drawnCore(r, first, bare), drawnCore(r, size-first, bare))
	case 3:
		// The same once more, in a group: elements that are equal after Tidy.
		c := drawnCore(r, size/2, bare)
		return alternative(c, group(1, c))
	case 4:
		return group(1+r.Intn(32), drawnCore(r, size-1, bare))
	case 5:
		return renewal(drawnCore(r, size-1, bare))
	}
	return star(drawnCore(r, size-1, bare))
}

// TestDrawnCores asks of drawn cores, byte by byte.
func TestDrawnCores(t *testing.T) {
	r := rand.New(rand.NewSource(16))
	texts := stringsOf("abc", 3)
	large := 0
	for range 1500 {
		c := drawnCore(r, 1+r.Intn(40), 6)
		if !core.Good(c) {
			continue
		}
		wantModel(t, c, "abcd")
		wantLanguage(t, c, "ab", texts)
		word := ""
		for range 8 {
			word += "abc"[r.Intn(3):][:1]
			want, none := modelWord(c, word)
			got, err := deriv.Word(c, []byte(word))
			if err != none || !core.Same(got, want) {
				t.Errorf("Word of %s and %q: %s, %v, want %s, %v", show(c), word, show(got), err, show(want), none)
			}
			if none != api.OK {
				large++
				break
			}
		}
	}
	if large < 5 {
		t.Errorf("%d words whose derivative was too large", large)
	}
}

// TestDrawnLargeCores asks of cores up to MaxCore parts.
func TestDrawnLargeCores(t *testing.T) {
	r := rand.New(rand.NewSource(2000))
	kept, large := 0, 0
	for range 300 {
		c := drawnCore(r, 200+r.Intn(1400), 2+r.Intn(200))
		if r.Intn(2) == 0 {
			c = star(concat(star(c), set("a")))
		}
		if !core.Good(c) {
			wantError(t, c, 'a', api.EARG)
			continue
		}
		wantModel(t, c, "ab")
		if _, err := deriv.By(c, 'a'); err == api.ELARGE {
			large++
		} else {
			kept++
		}
	}
	if kept < 30 || large < 10 {
		t.Errorf("%d derivatives, and %d that were too large", kept, large)
	}
}
