package bits_test

import (
	"math/rand"
	"slices"
	"strings"
	"testing"

	"catchpole/api"
	"catchpole/bits"
	"catchpole/core"
	"catchpole/value"
)

// chain is v within that many values of that kind, alone in each.
func chain(kind, times int, v value.Value) value.Value {
	for range times {
		v = value.Value{Kind: kind, L: []value.Value{v}}
	}
	return v
}

// TestPutOfDeepValues asks of as many levels as are promised.
func TestPutOfDeepValues(t *testing.T) {
	const levels = 1<<16 - 1
	no := right(letter('b'))
	zeros, ones := strings.Repeat("0", levels), strings.Repeat("1", levels)
	for kind, want := range map[int]string{0: "", 1: "", 2: "", 3: "1", 4: zeros + "1", 5: ones + "1", 6: zeros + "1" + ones, 7: "1", 8: ""} {
		wantPut(t, chain(kind, levels, no), want)
	}
	deep := star(no)
	for range levels / 3 {
		deep = concat(right(star(deep)), no)
	}
	wantPut(t, deep, strings.Repeat("10", levels/3)+"011"+strings.Repeat("11", levels/3))
}

// TestPutOfWideValues asks of many elements, which count for a star alone.
func TestPutOfWideValues(t *testing.T) {
	const count = 1000000
	l := slices.Repeat([]value.Value{right(letter('b')), letter('a')}, count/2)
	wantPut(t, star(l...), strings.Repeat("010", count/2)+"1")
	for kind, want := range map[int]string{0: "", 1: "", 2: "", 3: "1", 4: "01", 5: "11", 7: "1", 8: "", -6: ""} {
		wantPut(t, value.Value{Kind: kind, L: l}, want)
	}
}

// TestPutOfSharedElements asks of values whose elements are the same ones, which
// count as often as they stand there; and of those that do not count, which
// nobody goes through.
func TestPutOfSharedElements(t *testing.T) {
	v := star()
	for range 15 {
		v = star(v, v)
	}
	wantPut(t, v, modelPut(v))
	for range 200 {
		v = star(v, v)
	}
	a := letter('a')
	for _, kind := range append(unknown(), 1, 2) {
		wantPut(t, value.Value{Kind: kind, L: []value.Value{v, v}}, "")
	}
	wantPut(t, concat(a, a, v), "")
	wantPut(t, left(a, v), "0")
	wantPut(t, right(a, v), "1")
	wantPut(t, group(a, v), "")
}

// TestDeepCores asks of cores of MaxCore parts and of one more, in one chain.
func TestDeepCores(t *testing.T) {
	a, coreA := letter('a'), coreSet("a")
	for _, size := range []int{api.MaxCore - 1, api.MaxCore, api.MaxCore + 1, 2 * api.MaxCore, 65535} {
		stars, groups, renewals := coreA, coreA, coreA
		for i := range size - 1 {
			stars, groups, renewals = coreStar(stars), coreGroup(1+i%32, groups), coreRenewal(renewals)
		}
		zeros, ones := strings.Repeat("0", size-1), strings.Repeat("1", size-1)
		for _, m := range []match{
			{stars, zeros + ones, "a", chain(6, size-1, a)},
			{stars, zeros + "01" + ones[1:], "aa", chain(6, size-2, star(a, a))},
			{stars, "1", "", star()},
			{groups, "", "a", chain(7, size-1, a)},
			{renewals, "", "a", a},
		} {
			if size > api.MaxCore {
				wantError(t, m.c, m.choices, m.s, api.EARG)
				continue
			}
			wantMatch(t, m)
			wantError(t, m.c, m.choices+"1", m.s, api.EBITS)
			wantError(t, m.c, m.choices, m.s+"a", api.EBITS)
			if m.choices != "" {
				wantError(t, m.c, m.choices[1:], m.s, api.EBITS)
			}
		}
	}
}

// TestBroadCores asks of concatenations and alternatives of about MaxCore parts,
// to the right and to the left.
func TestBroadCores(t *testing.T) {
	const times = (api.MaxCore - 1) / 2
	x, option := coreEmpty(), coreAlternative(coreSet("a"), coreEmpty())
	rightward, leftward := match{c: coreSet("a"), s: "a", v: letter('a')}, match{c: coreSet("a"), s: "a", v: letter('a')}
	for range times {
		rightward.c, leftward.c = coreAlternative(x, rightward.c), coreAlternative(leftward.c, x)
		rightward.v, leftward.v = right(rightward.v), left(leftward.v)
	}
	rightward.choices, leftward.choices = strings.Repeat("1", times), strings.Repeat("0", times)
	options := match{option, "1", "", right(empty())}
	for range (api.MaxCore - 3) / 4 {
		options.c, options.v, options.choices = coreConcat(option, options.c), concat(right(empty()), options.v), "1"+options.choices
	}
	for _, m := range []match{rightward, leftward, options} {
		wantMatch(t, m)
		wantError(t, m.c, m.choices[1:], m.s, api.EBITS)
		wantError(t, m.c, m.choices+m.choices[:1], m.s, api.EBITS)
		for at := range m.choices {
			other := "1"
			if m.choices[at] == '1' {
				other = "0"
			}
			wantError(t, m.c, m.choices[:at]+other+m.choices[at+1:], m.s, api.EBITS)
		}
	}
}

// TestManyIterations asks of as many iterations of as many stars as there may
// be, and of choices that go on without a byte.
func TestManyIterations(t *testing.T) {
	c, v, choices := coreSet("a"), letter('a'), ""
	for range api.MaxCore - 2 {
		c, v, choices = coreStar(c), star(v), "0"+choices+"1"
	}
	m := match{coreStar(c), strings.Repeat("0"+choices, api.MaxInput) + "1", strings.Repeat("a", api.MaxInput), star(slices.Repeat([]value.Value{v}, api.MaxInput)...)}
	wantMatch(t, m)
	wantError(t, m.c, m.choices[1:], m.s, api.EBITS)
	wantError(t, m.c, m.choices, m.s[1:], api.EBITS)
	const many = 1 << 22
	a, option := coreSet("a"), coreAlternative(coreSet("a"), coreEmpty())
	broad := option
	for range (api.MaxCore - 4) / 4 {
		broad = coreConcat(option, broad)
	}
	for _, part := range []string{"0", "1", "01", "10", "011", "001", "0101", "2", "0 "} {
		choices := strings.Repeat(part, many/len(part))
		for _, c := range []core.Core{m.c, coreStar(a), coreStar(coreEmpty()), coreStar(option), coreStar(broad), coreStar(coreRenewal(coreStar(coreEmpty()))), broad, a, coreEmpty()} {
			for _, s := range []string{"", "a", m.s} {
				wantError(t, c, choices, s, api.EBITS)
			}
		}
	}
}

// TestArbitraryArguments asks R1: each call ends, whatever it is given.
func TestArbitraryArguments(t *testing.T) {
	r := rand.New(rand.NewSource(13))
	cores := wrongCores()
	for _, m := range matches() {
		cores = append(cores, m.c)
	}
	for _, c := range cores {
		for range 200 {
			choices, s := drawnString(r, 12), drawnString(r, r.Intn(4))
			if r.Intn(20) == 0 {
				s = drawnString(r, 2*api.MaxInput)
			}
			v, err := bits.Get(c, choices, []byte(s))
			switch {
			case !core.Good(c) || len(s) > api.MaxInput:
				wantError(t, c, choices, s, api.EARG)
			case err == api.OK:
				wantMatch(t, match{c, choices, s, v})
			default:
				wantError(t, c, choices, s, api.EBITS)
			}
		}
	}
	for range 20000 {
		v := drawnValue(r, 1+r.Intn(6))
		wantPut(t, v, modelPut(v))
	}
}

// drawnString is a string of less than that many bytes, of any or of few kinds.
func drawnString(r *rand.Rand, most int) string {
	s := make([]byte, r.Intn(most+1))
	characters := []string{"01", "01", "0011x", "ab01\x00\xff", ""}[r.Intn(5)]
	for i := range s {
		s[i] = byte(r.Intn(256))
		if characters != "" {
			s[i] = characters[r.Intn(len(characters))]
		}
	}
	return string(s)
}

// drawnValue is a value of at most that many levels, with anything in it.
func drawnValue(r *rand.Rand, levels int) value.Value {
	v := value.Value{Kind: r.Intn(10) - 1, B: byte(r.Intn(256))}
	if r.Intn(20) == 0 {
		v.Kind = unknown()[r.Intn(len(unknown()))]
	}
	if levels > 1 {
		for range r.Intn(4) {
			v.L = append(v.L, drawnValue(r, levels-1))
		}
	}
	return v
}

// mark stands in spare capacity.
func mark() value.Value {
	return value.Value{Kind: 42, B: 42, L: []value.Value{{Kind: 43}}}
}

// roomy is v with spare capacity in each list, in which a mark stands.
func roomy(v value.Value) value.Value {
	l := make([]value.Value, len(v.L), len(v.L)+2)
	for i, x := range v.L {
		l[i] = roomy(x)
	}
	for i := len(l); i < cap(l); i++ {
		l[:cap(l)][i] = mark()
	}
	v.L = l
	return v
}

// intact tells whether v is what roomy made.
func intact(v value.Value) bool {
	for i := len(v.L); i < cap(v.L); i++ {
		if !value.Same(v.L[:cap(v.L)][i], mark()) {
			return false
		}
	}
	return !slices.ContainsFunc(v.L, func(x value.Value) bool { return !intact(x) })
}

// roomyCore is c with spare capacity in each list, in which a core stands.
func roomyCore(c core.Core) core.Core {
	l := make([]core.Core, len(c.L), len(c.L)+1)
	for i, x := range c.L {
		l[i] = roomyCore(x)
	}
	l[:cap(l)][len(l)] = coreSet("spare")
	c.L = l
	return c
}

// intactCore tells whether c is what roomyCore made.
func intactCore(c core.Core) bool {
	return core.Same(c.L[:cap(c.L)][len(c.L)], coreSet("spare")) && !slices.ContainsFunc(c.L, func(x core.Core) bool { return !intactCore(x) })
}

// places adds the places of all elements in the lists of v, and in their spare
// capacity, to seen. It returns false if one of them is there already.
func places(v value.Value, seen map[*value.Value]bool) bool {
	for i := range v.L[:cap(v.L)] {
		at := &v.L[:cap(v.L)][i]
		if seen[at] {
			return false
		}
		seen[at] = true
	}
	return !slices.ContainsFunc(v.L, func(x value.Value) bool { return !places(x, seen) })
}

// TestMemory asks R4 and R5: what is passed is not changed, nor its spare
// capacity, and not kept; and the lists of values are new ones each time.
func TestMemory(t *testing.T) {
	for _, inner := range matches() {
		for _, m := range around(inner) {
			c, given := roomyCore(m.c), roomy(m.v)
			room := []byte(m.s + "spare")
			s := room[:len(m.s)]
			v, err := bits.Get(c, m.choices, s)
			other, _ := bits.Get(c, m.choices, s)
			wrong, wrongErr := bits.Get(c, m.choices+"0", s)
			if err != api.OK || wrongErr != api.EBITS || !value.Same(wrong, value.Value{}) {
				t.Errorf("Get of %s and %q: %v, and with a choice more %v", show(m.c), m.choices, err, wrongErr)
			}
			wantPut(t, given, m.choices)
			if string(room) != m.s+"spare" || !core.Same(c, m.c) || !intactCore(c) || !value.Same(given, m.v) || !intact(given) {
				t.Errorf("%s, %q or %s was changed", show(m.c), m.s, value.Text(m.v))
			}
			seen := map[*value.Value]bool{}
			if !places(v, seen) || !places(other, seen) || !places(given, seen) {
				t.Errorf("%s: lists share memory", value.Text(m.v))
			}
			copy(room, strings.Repeat("!", len(room)))
			if !value.Same(v, m.v) || !value.Same(other, m.v) {
				t.Errorf("%s became %s when the bytes changed", value.Text(m.v), value.Text(v))
			}
		}
	}
}

// TestNilAndEmpty asks that a nil list and an empty one are the same.
func TestNilAndEmpty(t *testing.T) {
	for _, s := range [][]byte{nil, {}, []byte("a")[:0]} {
		for _, m := range []match{{coreEmpty(), "", "", empty()}, {coreStar(coreSet("a")), "1", "", star()}} {
			if v, err := bits.Get(m.c, m.choices, s); err != api.OK || !value.Same(v, m.v) {
				t.Errorf("Get of %s and no byte: %s, %v", show(m.c), value.Text(v), err)
			}
		}
	}
	for kind := range 9 {
		wantPut(t, value.Value{Kind: kind, L: []value.Value{}}, bits.Put(value.Value{Kind: kind}))
	}
	wantGet(t, core.Core{Kind: 1, L: []core.Core{}}, "", "", empty())
	wantGet(t, core.Core{Kind: 2, Set: coreSet("a").Set, L: []core.Core{}}, "", "a", letter('a'))
	wantError(t, core.Core{L: []core.Core{}}, "", "", api.EBITS)
}
