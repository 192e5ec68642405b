package caps_test

import (
	"math"
	"math/rand"
	"slices"
	"strings"
	"testing"

	"catchpole/api"
	"catchpole/caps"
	"catchpole/core"
	"catchpole/value"
)

// maxAt is the greatest offset that is accepted.
const maxAt = 1 << 30

// wrongOffsets are offsets that are not accepted.
func wrongOffsets() []int {
	return []int{-1, -2, -100, -maxAt, math.MinInt32, math.MinInt64, maxAt + 1, maxAt + 2, math.MaxInt32, 1 << 32, 1<<32 + 1, math.MaxInt64}
}

// wrongCounts are numbers of groups that are not accepted.
func wrongCounts() []int {
	return []int{-1, -2, -api.MaxGroups, math.MinInt32, math.MinInt64, api.MaxGroups + 1, api.MaxGroups + 2, 63, 64, 65, 256, math.MaxInt32, 1 << 32, 1<<32 + 1, math.MaxInt64}
}

// TestWrongNumbers asks for offsets and for numbers of groups at the edges and
// beyond, with a value of the core and without one.
func TestWrongNumbers(t *testing.T) {
	c, v := coreGroup(1, coreSet("a")), group(letter('a'))
	for _, at := range []int{0, 1, 255, 1 << 16, maxAt - 1, maxAt} {
		wantSpans(t, c, v, at, []caps.Span{{From: at, To: at + 1}})
		wantSpans(t, c, v, at, []caps.Span{{From: at, To: at + 1}, {From: at, To: at + 1}})
		for _, groups := range wrongCounts() {
			wantError(t, c, v, at, groups)
			wantError(t, c, letter('a'), at, groups)
		}
		wantError(t, c, letter('a'), at, 1)
	}
	for _, at := range wrongOffsets() {
		for groups := range api.MaxGroups + 1 {
			wantError(t, c, v, at, groups)
			wantError(t, c, letter('a'), at, groups)
		}
		for _, groups := range wrongCounts() {
			wantError(t, c, v, at, groups)
		}
	}
}

// wrongCores are cores that are not valid.
func wrongCores() []core.Core {
	a := coreSet("a")
	large := a
	for range api.MaxCore {
		large = coreStar(large)
	}
	shared := a
	for range 200 {
		shared = coreConcat(shared, shared)
	}
	return []core.Core{
		{Kind: -1}, {Kind: 8}, {Kind: 9, L: []core.Core{a}}, {Kind: 256 + 1}, {Kind: 1<<32 + 2, Set: a.Set},
		{N: 1}, {Set: a.Set}, {L: []core.Core{a}},
		{Kind: 1, N: 1}, {Kind: 1, Set: a.Set}, {Kind: 1, L: []core.Core{a}},
		{Kind: 2, Set: a.Set, N: 1}, {Kind: 2, Set: a.Set, L: []core.Core{a}},
		coreConcat(), coreConcat(a), coreConcat(a, a, a),
		coreAlternative(), coreAlternative(a), coreAlternative(a, a, a),
		coreStar(), coreStar(a, a),
		coreGroup(1), coreGroup(1, a, a), coreGroup(0, a), coreGroup(-1, a), coreGroup(api.MaxGroups+1, a), coreGroup(64, a), coreGroup(65, a), coreGroup(math.MinInt, a),
		coreRenewal(), coreRenewal(a, a),
		large, shared,
	}
}

// someValues are values, some of which no core has.
func someValues() []value.Value {
	a, e := letter('a'), empty()
	return []value.Value{
		e, a, letter('b'), {}, {Kind: -1}, {Kind: 8, L: []value.Value{a}}, {Kind: 1, B: 'a'}, {Kind: 1, L: []value.Value{a}}, {Kind: 2, B: 'a', L: []value.Value{a}},
		concat(), concat(a), concat(a, a), concat(a, a, a), left(), left(a), left(a, a), right(), right(a), right(a, a),
		star(), star(a), star(a, a), star(e), group(), group(a), group(a, a), group(group(a)), star(group(a)), star(star(a)),
		left(group(a)), concat(group(a), star()), {Kind: 7, B: 'a', L: []value.Value{a}}, {Kind: 6, B: 'a'},
	}
}

// TestWrongValues asks of values that are not of their core, and of cores that
// are not valid, also where the value does not go.
func TestWrongValues(t *testing.T) {
	a := coreSet("a")
	cores := []core.Core{coreNothing(), coreEmpty(), a, coreSet(""), coreConcat(a, a), coreAlternative(a, coreEmpty()), coreStar(a), coreGroup(1, a), coreRenewal(a), coreStar(coreGroup(2, a)), coreGroup(1, coreNothing()), coreRenewal(coreGroup(32, a))}
	for _, wrong := range wrongCores() {
		cores = append(cores, wrong, coreConcat(a, wrong), coreAlternative(a, wrong), coreAlternative(wrong, a), coreStar(wrong), coreGroup(1, wrong), coreRenewal(wrong))
	}
	good := 0
	for _, c := range cores {
		for _, v := range someValues() {
			for groups := range api.MaxGroups + 1 {
				if !value.Good(c, v) {
					wantError(t, c, v, groups, groups)
					continue
				}
				good++
				if got, err := caps.Of(c, v, groups, groups); err != api.OK || len(got) != groups+1 {
					t.Errorf("Of %s and %s: %v, %v", show(c), value.Text(v), got, err)
				}
			}
		}
	}
	// Each core but three has values among these.
	if good < 10*(api.MaxGroups+1) {
		t.Errorf("only %d good values", good)
	}
}

// chain is v within that many values of that kind, alone in each.
func chain(kind, times int, v value.Value) value.Value {
	for range times {
		v = value.Value{Kind: kind, L: []value.Value{v}}
	}
	return v
}

// repeated are that many spans.
func repeated(s caps.Span, times int) []caps.Span { return slices.Repeat([]caps.Span{s}, times) }

// TestDeepCores asks of cores of MaxCore parts and of one more, in one chain, and
// of values of as many levels as are promised.
func TestDeepCores(t *testing.T) {
	first := caps.Span{From: 3, To: 4}
	for _, size := range []int{api.MaxCore - 1, api.MaxCore, api.MaxCore + 1, 65535} {
		groups, stars, renewals := coreSet("a"), coreGroup(1, coreSet("a")), coreGroup(1, coreSet("a"))
		for i := range size - 1 {
			groups = coreGroup(1+i%api.MaxGroups, groups)
			if i > 0 {
				stars, renewals = coreStar(stars), coreRenewal(renewals)
			}
		}
		inGroups, inStars, inRenewals := chain(7, size-1, letter('a')), chain(6, size-2, group(letter('a'))), group(letter('a'))
		if size > api.MaxCore {
			wantError(t, groups, inGroups, 3, 1)
			wantError(t, stars, inStars, 3, 1)
			wantError(t, renewals, inRenewals, 3, 1)
			wantError(t, coreStar(coreSet("a")), inGroups, 3, 1)
			wantError(t, coreStar(coreSet("a")), inStars, 3, 1)
			continue
		}
		wantSpans(t, groups, inGroups, 3, repeated(first, api.MaxGroups+1))
		wantSpans(t, stars, inStars, 3, repeated(first, 2))
		wantSpans(t, renewals, inRenewals, 3, repeated(first, 2))
		wantSpans(t, stars, chain(6, size-3, star()), 3, []caps.Span{{From: 3, To: 3}, unset()})
	}
}

// TestManyIterations asks of very many iterations of a star with as many groups
// as there may be, in a core that is about as large as it may be.
func TestManyIterations(t *testing.T) {
	const count = 1000000
	groups := coreSet("a")
	for i := range api.MaxCore - 5 {
		groups = coreGroup(1+i%api.MaxGroups, groups)
	}
	c := coreStar(coreAlternative(groups, coreSet("b")))
	v := star(slices.Repeat([]value.Value{right(letter('b'))}, count)...)
	want := append(repeated(caps.Span{From: 0, To: count + 1}, 1), repeated(unset(), api.MaxGroups)...)
	last := left(chain(7, api.MaxCore-5, letter('a')))
	v.L = append(v.L, last)
	set := append(repeated(caps.Span{From: 0, To: count + 1}, 1), repeated(caps.Span{From: count, To: count + 1}, api.MaxGroups)...)
	wantSpans(t, c, v, 0, set)
	v.L[0], v.L[count] = last, v.L[0]
	wantSpans(t, c, v, 0, want)
	for range 3 {
		c, v = coreStar(c), star(v)
	}
	wantError(t, c, v, 0, 1)
}

// TestStarsWithinStars asks of many bytes under many stars: each byte would be
// counted once a star by one who asks for the Len of each iteration.
func TestStarsWithinStars(t *testing.T) {
	const count = 500000
	c, v := coreStar(coreGroup(1, coreSet("a"))), star(slices.Repeat([]value.Value{group(letter('a'))}, count)...)
	for range api.MaxCore - 3 {
		c, v = coreStar(c), star(v)
	}
	wantSpans(t, c, v, 5, []caps.Span{{From: 5, To: 5 + count}, {From: 4 + count, To: 5 + count}})
	wantSpans(t, c, star(v.L[0], star()), 5, []caps.Span{{From: 5, To: 5 + count}, unset()})
}

// TestBroadCores asks of concatenations of many groups of which each unsets what
// was set before it.
func TestBroadCores(t *testing.T) {
	const times = (api.MaxCore - 1) / 6
	option := coreAlternative(coreGroup(1, coreSet("a")), coreEmpty())
	c, v := coreEmpty(), empty()
	for range times {
		c, v = coreConcat(coreRenewal(option), c), concat(left(group(letter('a'))), v)
	}
	wantSpans(t, c, v, 0, []caps.Span{{From: 0, To: times}, {From: times - 1, To: times}})
	for at := times - 1; at >= 0; at-- {
		last := &v
		for range at {
			last = &last.L[1]
		}
		last.L[0] = right(empty())
		wantSpans(t, c, v, 0, []caps.Span{{From: 0, To: at}, unset()})
	}
}

// mark stands in spare capacity.
func mark() value.Value {
	return value.Value{Kind: 42, B: 42, L: []value.Value{{Kind: 43}}}
}

// roomy is v with spare capacity in each list, in which a mark stands.
func roomy(v value.Value) value.Value {
	l := make([]value.Value, len(v.L), len(v.L)+2)
	for i, x := range v.L {
		l[i] = roomy(x)
	}
	for i := len(l); i < cap(l); i++ {
		l[:cap(l)][i] = mark()
	}
	v.L = l
	return v
}

// intact tells whether v is what roomy made.
func intact(v value.Value) bool {
	for i := len(v.L); i < cap(v.L); i++ {
		if !value.Same(v.L[:cap(v.L)][i], mark()) {
			return false
		}
	}
	return !slices.ContainsFunc(v.L, func(x value.Value) bool { return !intact(x) })
}

// roomyCore is c with spare capacity in each list, in which a core stands.
func roomyCore(c core.Core) core.Core {
	l := make([]core.Core, len(c.L), len(c.L)+1)
	for i, x := range c.L {
		l[i] = roomyCore(x)
	}
	l[:cap(l)][len(l)] = coreSet("spare")
	c.L = l
	return c
}

// intactCore tells whether c is what roomyCore made.
func intactCore(c core.Core) bool {
	return core.Same(c.L[:cap(c.L)][len(c.L)], coreSet("spare")) && !slices.ContainsFunc(c.L, func(x core.Core) bool { return !intactCore(x) })
}

// overwrite puts another span over l and its spare capacity.
func overwrite(l []caps.Span) {
	for i := range l[:cap(l)] {
		l[:cap(l)][i] = caps.Span{From: 77, To: 78}
	}
}

// TestMemory asks R3, R4 and R5: what is passed is not changed, nor its spare
// capacity, a list that is answered is a new one each time, and no call changes
// what another one answers.
func TestMemory(t *testing.T) {
	r := rand.New(rand.NewSource(23))
	for range 2000 {
		c, v := drawnMatch(r, 1+r.Intn(12))
		given, givenValue := roomyCore(c), roomy(v)
		groups, at := r.Intn(api.MaxGroups+1), r.Intn(1000)
		l, err := caps.Of(given, givenValue, at, groups)
		want := slices.Clone(l)
		other, _ := caps.Of(given, givenValue, at, groups)
		overwrite(other)
		wantError(t, given, givenValue, -1, groups)
		if err != api.OK || !slices.Equal(l, want) {
			t.Errorf("%s: answers share memory", show(c))
		}
		wantSpans(t, given, givenValue, at, want)
		if !core.Same(c, given) || !intactCore(given) || !value.Same(v, givenValue) || !intact(givenValue) {
			t.Errorf("%s or %s was changed", show(c), value.Text(v))
		}
		room := append(slices.Clone(l), caps.Span{From: 1, To: 2}, unset())
		text := caps.Text(room[:len(l)])
		if !slices.Equal(room, append(slices.Clone(want), caps.Span{From: 1, To: 2}, unset())) || text != caps.Text(want) {
			t.Errorf("Text of %v changed it", want)
		}
	}
}

// TestNilAndEmpty asks that a nil list and an empty one are the same.
func TestNilAndEmpty(t *testing.T) {
	wantSpans(t, core.Core{Kind: 1, L: []core.Core{}}, value.Value{Kind: 1, L: []value.Value{}}, 2, []caps.Span{{From: 2, To: 2}})
	wantSpans(t, coreStar(coreGroup(1, coreSet("a"))), value.Value{Kind: 6, L: []value.Value{}}, 2, []caps.Span{{From: 2, To: 2}, unset()})
	if caps.Text(nil) != caps.Text([]caps.Span{}) || strings.TrimSpace(caps.Text(nil)) != "" {
		t.Errorf("Text of no span: %q", caps.Text(nil))
	}
}
