package byteset_test

import (
	"fmt"
	"slices"
	"testing"

	"catchpole/byteset"
)

// The functions with the signatures that the chapter lists: another one would
// not build.
var (
	_ func(...byte) byteset.Set                  = byteset.Of
	_ func(byte, byte) byteset.Set               = byteset.Range
	_ func() byteset.Set                         = byteset.All
	_ func(byteset.Set, byte) bool               = byteset.Set.Has
	_ func(byteset.Set, byteset.Set) byteset.Set = byteset.Set.Or
	_ func(byteset.Set, byteset.Set) byteset.Set = byteset.Set.And
	_ func(byteset.Set) byteset.Set              = byteset.Set.Not
	_ func(byteset.Set, byteset.Set) byteset.Set = byteset.Set.Minus
	_ func(byteset.Set) int                      = byteset.Set.Len
	_ func(byteset.Set) (byte, bool)             = byteset.Set.Least
	_ func(byteset.Set) []byte                   = byteset.Set.List
	_ func(byteset.Set) []byteset.Run            = byteset.Set.Runs
	_ func(byteset.Set, byteset.Set) int         = byteset.Set.Cmp
	_                                            = struct{ Lo, Hi byte }(byteset.Run{})
	_                                            = [4]uint64(byteset.Set{})
)

// model is a set in the plainest form, to hold the answers against.
type model [256]bool

// set writes the words of a model bit by bit, without the package's functions.
func (m model) set() byteset.Set {
	var s byteset.Set
	for b, in := range m {
		if in {
			s[b/64] += 1 << (b % 64)
		}
	}
	return s
}

func (m model) list() []byte {
	var l []byte
	for b, in := range m {
		if in {
			l = append(l, byte(b))
		}
	}
	return l
}

// runs asks of each byte whether a run begins or ends there.
func (m model) runs() []byteset.Run {
	var l []byteset.Run
	for b, in := range m {
		if in && (b == 0 || !m[b-1]) {
			l = append(l, byteset.Run{Lo: byte(b)})
		}
		if in && (b == 255 || !m[b+1]) {
			l[len(l)-1].Hi = byte(b)
		}
	}
	return l
}

func modelOf(b ...byte) model {
	var m model
	for _, x := range b {
		m[x] = true
	}
	return m
}

// span is the model of a range, and takes ints so that 255 can be an end.
func span(lo, hi int) model {
	var m model
	for x := lo; x <= hi; x++ {
		m[x] = true
	}
	return m
}

// edges are the first and the last byte of each word, and the second and the
// second last of all.
func edges() []byte { return []byte{0, 1, 63, 64, 127, 128, 191, 192, 254, 255} }

// models are ordinary sets, the edges, and sets of no order, thin and thick.
func models() []model {
	l := []model{{}, span(0, 255), span(0, 254), span(1, 255), span(1, 254)}
	for _, lo := range edges() {
		l = append(l, modelOf(lo))
		for _, hi := range edges() {
			l = append(l, modelOf(lo, hi), span(int(lo), int(hi)))
		}
	}
	l = append(l, modelOf(edges()...), modelOf([]byte("aeiou")...), modelOf([]byte("az09")...), span('a', 'z'))
	for i := range 4 {
		l = append(l, span(i*64, i*64+63), span(i*64+1, i*64+62))
	}
	seed := uint32(1)
	for i := range 40 {
		var m model
		for b := range m {
			seed = seed*1664525 + 1013904223
			m[b] = seed>>16%40 <= uint32(i)
		}
		l = append(l, m)
	}
	return l
}

func TestByteIsBitOfWord(t *testing.T) {
	for _, c := range []struct {
		b    byte
		want byteset.Set
	}{
		{0, byteset.Set{1, 0, 0, 0}},
		{1, byteset.Set{2, 0, 0, 0}},
		{63, byteset.Set{1 << 63, 0, 0, 0}},
		{64, byteset.Set{0, 1, 0, 0}},
		{'a', byteset.Set{0, 1 << 33, 0, 0}},
		{127, byteset.Set{0, 1 << 63, 0, 0}},
		{128, byteset.Set{0, 0, 1, 0}},
		{191, byteset.Set{0, 0, 1 << 63, 0}},
		{192, byteset.Set{0, 0, 0, 1}},
		{255, byteset.Set{0, 0, 0, 1 << 63}},
	} {
		if got := byteset.Of(c.b); got != c.want {
			t.Errorf("Of(%d) = %x, want %x", c.b, got, c.want)
		}
		if got := byteset.Range(c.b, c.b); got != c.want {
			t.Errorf("Range(%d, %[1]d) = %x, want %x", c.b, got, c.want)
		}
		if !c.want.Has(c.b) {
			t.Errorf("Set %x has not %d", c.want, c.b)
		}
	}
	for b := range 256 {
		if got, want := byteset.Of(byte(b)), span(b, b).set(); got != want {
			t.Errorf("Of(%d) = %x, want %x", b, got, want)
		}
	}
}

func TestOf(t *testing.T) {
	for _, c := range []struct {
		name string
		b    []byte
		want byteset.Set
	}{
		{"no byte", []byte{}, byteset.Set{}},
		{"nil", nil, byteset.Set{}},
		{"one", []byte{3}, byteset.Set{8}},
		{"twice", []byte{3, 3}, byteset.Set{8}},
		{"twice, apart", []byte{200, 3, 200}, byteset.Set{8, 0, 0, 1 << 8}},
		{"descending", []byte{255, 128, 64, 0}, byteset.Set{1, 1, 1, 1 << 63}},
		{"edges", []byte{0, 63, 64, 127, 128, 191, 192, 255}, byteset.Set{1<<63 | 1, 1<<63 | 1, 1<<63 | 1, 1<<63 | 1}},
	} {
		if got := byteset.Of(c.b...); got != c.want {
			t.Errorf("Of, %s: %x, want %x", c.name, got, c.want)
		}
	}
	if got := byteset.Of(); got != (byteset.Set{}) {
		t.Errorf("Of() = %x", got)
	}
	for i, m := range models() {
		if got := byteset.Of(m.list()...); got != m.set() {
			t.Errorf("Of, model %d: %x, want %x", i, got, m.set())
		}
	}
}

func TestRange(t *testing.T) {
	for lo := range 256 {
		for hi := range 256 {
			if got, want := byteset.Range(byte(lo), byte(hi)), span(lo, hi).set(); got != want {
				t.Fatalf("Range(%d, %d) = %x, want %x", lo, hi, got, want)
			}
		}
	}
	if got := byteset.Range('d', 'a'); got != (byteset.Set{}) {
		t.Errorf("Range(d, a) = %x, want the empty set", got)
	}
	if got := byteset.Range(255, 0); got != (byteset.Set{}) {
		t.Errorf("Range(255, 0) = %x, want the empty set", got)
	}
	if got, want := byteset.Range(62, 65), (byteset.Set{3 << 62, 3}); got != want {
		t.Errorf("Range(62, 65) = %x, want %x", got, want)
	}
}

func TestAll(t *testing.T) {
	const full = 1<<64 - 1
	if got := byteset.All(); got != (byteset.Set{full, full, full, full}) {
		t.Errorf("All() = %x", got)
	}
}

func TestHas(t *testing.T) {
	for i, m := range models() {
		for b, want := range m {
			if got := m.set().Has(byte(b)); got != want {
				t.Errorf("model %d: Has(%d) = %v", i, b, got)
			}
		}
	}
}

func TestCombined(t *testing.T) {
	all := models()
	for i, a := range all {
		for k, b := range all {
			var or, and, minus model
			for x := range 256 {
				or[x] = a[x] || b[x]
				and[x] = a[x] && b[x]
				minus[x] = a[x] && !b[x]
			}
			s, o := a.set(), b.set()
			if got := s.Or(o); got != or.set() {
				t.Errorf("models %d, %d: Or %x, want %x", i, k, got, or.set())
			}
			if got := s.And(o); got != and.set() {
				t.Errorf("models %d, %d: And %x, want %x", i, k, got, and.set())
			}
			if got := s.Minus(o); got != minus.set() {
				t.Errorf("models %d, %d: Minus %x, want %x", i, k, got, minus.set())
			}
			if s != a.set() || o != b.set() {
				t.Fatalf("models %d, %d: the sets were changed", i, k)
			}
		}
	}
}

func TestCombinedByHand(t *testing.T) {
	a, b := byteset.Of(1, 64, 200), byteset.Of(64, 65, 200)
	for _, c := range []struct {
		name      string
		got, want byteset.Set
	}{
		{"Or", a.Or(b), byteset.Set{2, 3, 0, 1 << 8}},
		{"And", a.And(b), byteset.Set{0, 1, 0, 1 << 8}},
		{"Minus", a.Minus(b), byteset.Set{2}},
		{"Minus, the other way", b.Minus(a), byteset.Set{0, 2}},
		{"Not of all", byteset.All().Not(), byteset.Set{}},
		{"Not of none", byteset.Set{}.Not(), byteset.All()},
	} {
		if c.got != c.want {
			t.Errorf("%s: %x, want %x", c.name, c.got, c.want)
		}
	}
}

func TestNot(t *testing.T) {
	for i, m := range models() {
		var want model
		for b := range m {
			want[b] = !m[b]
		}
		s := m.set()
		if got := s.Not(); got != want.set() {
			t.Errorf("model %d: Not %x, want %x", i, got, want.set())
		}
		if s != m.set() {
			t.Fatalf("model %d: Not changed the set", i)
		}
	}
}

func TestLen(t *testing.T) {
	for i, m := range models() {
		if got, want := m.set().Len(), len(m.list()); got != want {
			t.Errorf("model %d: Len %d, want %d", i, got, want)
		}
	}
	if none, all := byteset.Of().Len(), byteset.All().Len(); none != 0 || all != 256 {
		t.Errorf("Len of none %d, of all %d", none, all)
	}
	if got := byteset.Of(7, 7, 255).Len(); got != 2 {
		t.Errorf("Len of a set with a byte given twice: %d, want 2", got)
	}
}

func TestLeast(t *testing.T) {
	for _, c := range []struct {
		s    byteset.Set
		want byte
	}{
		{byteset.All(), 0},
		{byteset.Of(0), 0},
		{byteset.Of(255, 63), 63},
		{byteset.Of(255, 64), 64},
		{byteset.Of(255, 127), 127},
		{byteset.Of(255, 128), 128},
		{byteset.Of(255, 191), 191},
		{byteset.Of(255, 192), 192},
		{byteset.Of(255), 255},
		{byteset.Of('z', 'a'), 'a'},
	} {
		if got, ok := c.s.Least(); got != c.want || !ok {
			t.Errorf("Least of %x = %d, %v, want %d", c.s, got, ok, c.want)
		}
	}
	for i, m := range models() {
		got, ok := m.set().Least()
		l := m.list()
		if ok != (len(l) > 0) || ok && got != l[0] {
			t.Errorf("model %d: Least %d, %v of %v", i, got, ok, l)
		}
	}
	if got, ok := byteset.Of().Least(); got != 0 || ok {
		t.Errorf("Least of the empty set = %d, %v, want 0, false", got, ok)
	}
}

func TestList(t *testing.T) {
	for i, m := range models() {
		if got := m.set().List(); !slices.Equal(got, m.list()) {
			t.Errorf("model %d: List %v, want %v", i, got, m.list())
		}
	}
	if got, want := byteset.Of(255, 0, 64, 63, 64).List(), []byte{0, 63, 64, 255}; !slices.Equal(got, want) {
		t.Errorf("List %v, want %v", got, want)
	}
	if got := byteset.Of().List(); len(got) != 0 {
		t.Errorf("List of the empty set: %v", got)
	}
}

func TestRuns(t *testing.T) {
	for _, c := range []struct {
		s    byteset.Set
		want string
	}{
		{byteset.Of(), "[]"},
		{byteset.All(), "[{0 255}]"},
		{byteset.Range('a', 'c'), "[{97 99}]"},
		{byteset.Of(0), "[{0 0}]"},
		{byteset.Of(255), "[{255 255}]"},
		{byteset.Of(0, 255), "[{0 0} {255 255}]"},
		{byteset.Of(3, 5, 6), "[{3 3} {5 6}]"},
		{byteset.Of(63, 64), "[{63 64}]"},
		{byteset.Of(63, 65), "[{63 63} {65 65}]"},
		{byteset.Range(0, 63), "[{0 63}]"},
		{byteset.Range(64, 127), "[{64 127}]"},
		{byteset.Range(0, 127), "[{0 127}]"},
		{byteset.Range(60, 63).Or(byteset.Range(128, 130)), "[{60 63} {128 130}]"},
		{byteset.Range(191, 192), "[{191 192}]"},
		{byteset.Of(127, 128).Not(), "[{0 126} {129 255}]"},
		{byteset.Of(0, 63, 64, 127, 128, 191, 192, 255), "[{0 0} {63 64} {127 128} {191 192} {255 255}]"},
	} {
		if got := fmt.Sprint(c.s.Runs()); got != c.want {
			t.Errorf("Runs of %v: %s, want %s", c.s.List(), got, c.want)
		}
	}
	for i, m := range models() {
		if got := m.set().Runs(); !slices.Equal(got, m.runs()) {
			t.Errorf("model %d: Runs %v, want %v", i, got, m.runs())
		}
	}
}

// TestCmp has the sets in their order, so that the places tell each answer.
func TestCmp(t *testing.T) {
	l := []byteset.Set{
		byteset.Of(),
		byteset.Of(0),
		byteset.Of(0, 1),
		byteset.Range(0, 254),
		byteset.All(),
		byteset.Of(0, 1, 255),
		byteset.Of(0, 2),
		byteset.Of(0, 255),
		byteset.Of(1),
		byteset.Of(1, 2, 3),
		byteset.Of(1, 3),
		byteset.Of(63),
		byteset.Of(63, 64),
		byteset.Of(63, 64, 255),
		byteset.Of(64),
		byteset.Of(64, 128),
		byteset.Of(64, 128, 192),
		byteset.Of(127),
		byteset.Of(128),
		byteset.Of(191, 255),
		byteset.Of(192),
		byteset.Of(255),
	}
	for i, a := range l {
		for k, b := range l {
			want := min(max(i-k, -1), 1)
			if got := a.Cmp(b); got != want {
				t.Errorf("Cmp of %v and %v = %d, want %d", a.List(), b.List(), got, want)
			}
		}
	}
}

func TestCmpOfModels(t *testing.T) {
	all := models()
	for i, a := range all {
		for k, b := range all {
			want := slices.Compare(a.list(), b.list())
			if got := a.set().Cmp(b.set()); got != want {
				t.Errorf("models %d, %d: Cmp %d, want %d", i, k, got, want)
			}
		}
	}
}

// TestOfKeepsNothing asks R4: what is given is neither changed, nor its spare
// capacity, nor kept.
func TestOfKeepsNothing(t *testing.T) {
	whole := []byte{9, 3, 9, 77, 78, 79}
	s := byteset.Of(whole[:3]...)
	if want := []byte{9, 3, 9, 77, 78, 79}; !slices.Equal(whole, want) {
		t.Errorf("Of changed what it was given: %v, want %v", whole, want)
	}
	whole[0], whole[1], whole[2] = 1, 1, 1
	if want := byteset.Of(3, 9); s != want {
		t.Errorf("the set follows what it was made of: %v", s.List())
	}
}

// fill writes x over a list and its spare capacity.
func fill[E any](l []E, x E) {
	l = l[:cap(l)]
	for i := range l {
		l[i] = x
	}
}

// TestResultsAreNew asks R4 and R5: what is done with one list is not to be
// seen in a list told before or after, nor in the set.
func TestResultsAreNew(t *testing.T) {
	for i, m := range models() {
		s := m.set()
		list, runs := s.List(), s.Runs()
		fill(s.List(), 42)
		fill(s.Runs(), byteset.Run{Lo: 42, Hi: 41})
		if !slices.Equal(list, m.list()) || !slices.Equal(runs, m.runs()) {
			t.Errorf("model %d: a list shares memory with a later one", i)
		}
		fill(list, 42)
		fill(runs, byteset.Run{Lo: 42, Hi: 41})
		if !slices.Equal(s.List(), m.list()) || !slices.Equal(s.Runs(), m.runs()) || s != m.set() {
			t.Errorf("model %d: a list shares memory with an earlier one", i)
		}
	}
}

func ExampleSet_Runs() {
	for _, r := range byteset.Range('a', 'c').Runs() {
		fmt.Printf("%c to %c\n", r.Lo, r.Hi)
	}
	// Output: a to c
}
