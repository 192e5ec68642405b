package value_test

import (
	"testing"

	"catchpole/core"
	"catchpole/value"
)

// TestFull asks of iterations that match the empty string, and of those that
// match more.
func TestFull(t *testing.T) {
	a, e := letter('a'), empty()
	coreA, coreE := coreSet("a"), coreEmpty()
	option := coreAlternative(coreA, coreE)
	two := coreConcat(option, option)
	for _, x := range []struct {
		c    core.Core
		v    value.Value
		full bool
	}{
		{coreStar(coreE), star(), true},
		{coreStar(coreE), star(e), false},
		{coreStar(coreE), star(e, e), false},
		{coreStar(coreA), star(a, a), true},
		{coreStar(option), star(), true},
		{coreStar(option), star(left(a)), true},
		{coreStar(option), star(right(e)), false},
		{coreStar(option), star(left(a), right(e)), false},
		{coreStar(option), star(right(e), left(a)), false},
		{coreStar(option), star(left(a), right(e), left(a)), false},
		{coreStar(option), star(left(a), left(a), left(a)), true},
		{coreStar(coreAlternative(coreE, coreA)), star(left(e)), false},
		{coreStar(coreAlternative(coreE, coreA)), star(right(a)), true},
		{coreStar(two), star(concat(right(e), right(e))), false},
		{coreStar(two), star(concat(left(a), right(e))), true},
		{coreStar(two), star(concat(right(e), left(a))), true},
		{coreStar(two), star(concat(left(a), left(a)), concat(right(e), right(e))), false},
		{coreStar(coreGroup(1, coreE)), star(group(e)), false},
		{coreStar(coreGroup(1, option)), star(group(right(e))), false},
		{coreStar(coreGroup(1, option)), star(group(left(a))), true},
		{coreStar(coreRenewal(option)), star(right(e)), false},
		{coreStar(coreRenewal(option)), star(left(a)), true},
		{coreRenewal(coreStar(coreE)), star(e), false},
		{coreGroup(1, coreStar(coreE)), group(star(e)), false},
		{coreGroup(1, coreStar(coreE)), group(star()), true},
		{coreStar(coreStar(coreA)), star(), true},
		{coreStar(coreStar(coreA)), star(star()), false},
		{coreStar(coreStar(coreA)), star(star(a)), true},
		{coreStar(coreStar(coreA)), star(star(a), star()), false},
		{coreStar(coreStar(coreA)), star(star(), star(a)), false},
		{coreStar(coreStar(coreA)), star(star(a), star(a, a)), true},
		{coreStar(coreStar(option)), star(star(left(a), right(e))), false},
		{coreStar(coreStar(option)), star(star(left(a)), star(right(e))), false},
		{coreStar(coreStar(coreStar(coreA))), star(star(star())), false},
		{coreStar(coreStar(coreStar(coreA))), star(star(star(a), star())), false},
		{coreStar(coreStar(coreStar(coreA))), star(star(star(a), star(a)), star(star(a))), true},
		{coreStar(coreConcat(coreA, coreStar(coreE))), star(concat(a, star())), true},
		{coreStar(coreConcat(coreA, coreStar(coreE))), star(concat(a, star(e))), false},
		{coreStar(coreConcat(coreStar(coreE), coreA)), star(concat(star(), a)), true},
		{coreStar(coreConcat(coreStar(coreE), coreA)), star(concat(star(e), a)), false},
		{coreConcat(coreStar(coreE), coreA), concat(star(e), a), false},
		{coreConcat(coreA, coreStar(coreE)), concat(a, star(e)), false},
		{coreConcat(coreE, coreE), concat(e, e), true},
		{coreConcat(coreStar(coreA), coreStar(coreA)), concat(star(), star()), true},
		{coreAlternative(coreStar(coreE), coreA), left(star(e)), false},
		{coreAlternative(coreStar(coreE), coreA), left(star()), true},
		{coreAlternative(coreA, coreStar(coreE)), right(star(e)), false},
		{coreAlternative(coreStar(coreE), coreStar(coreE)), right(star()), true},
		{coreGroup(2, coreE), group(e), true},
		{coreE, e, true},
		{option, right(e), true},
	} {
		wantGood(t, x.c, x.v, true, x.full)
	}
}

// TestFullAtEachPlace asks of an iteration that matches the empty string, at
// each place among others that match more, and of stars that are nested deep.
func TestFullAtEachPlace(t *testing.T) {
	c := coreStar(coreGroup(1, coreStar(coreSet("a"))))
	for count := 1; count < 20; count++ {
		v := star()
		for range count {
			v.L = append(v.L, group(letters("aa")))
		}
		wantGood(t, c, v, true, true)
		for at := range count {
			wrong := clone(v)
			wrong.L[at] = group(star())
			wantGood(t, c, wrong, true, false)
		}
	}
	deep, some, none := coreSet("a"), letter('a'), star()
	for range 100 {
		deep, some = coreStar(deep), star(some)
		wantGood(t, deep, some, true, true)
		wantGood(t, deep, star(), true, true)
		wantGood(t, coreStar(deep), star(some, none), true, false)
		none = star(none)
	}
}

// TestFullIsGood asks that what is no value of the core is not full, even if
// each of its iterations has a byte.
func TestFullIsGood(t *testing.T) {
	a := letter('a')
	for _, v := range []value.Value{a, letter('b'), letters("ab"), star(star(a)), group(a), concat(a, a), {Kind: 6, B: 'a', L: []value.Value{a}}, {}} {
		wantGood(t, coreStar(coreSet("a")), v, false, false)
	}
}
