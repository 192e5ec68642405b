package core_test

import (
	"fmt"
	"math"
	"strings"
	"testing"

	"catchpole/api"
	"catchpole/byteset"
	"catchpole/core"
)

// wantText asks for the text of c, alone and within other cores.
func wantText(t *testing.T, c core.Core, want string) {
	t.Helper()
	for _, x := range []struct {
		c    core.Core
		want string
	}{
		{c, want},
		{concat(c, set("x")), "(" + want + ".<78>)"},
		{concat(set("x"), c), "(<78>." + want + ")"},
		{alternative(c, set("x")), "(" + want + "|<78>)"},
		{alternative(set("x"), c), "(<78>|" + want + ")"},
		{star(c), "(" + want + "*)"},
		{group(7, c), "(7:" + want + ")"},
		{renewal(c), "(~" + want + ")"},
	} {
		if got := core.Text(x.c); got != x.want {
			t.Errorf("Text of %s: %q, want %q", show(x.c), got, x.want)
		}
	}
}

func TestText(t *testing.T) {
	a, b := set("a"), set("b")
	wantText(t, nothing(), "0")
	wantText(t, empty(), "1")
	wantText(t, a, "<61>")
	wantText(t, concat(a, b), "(<61>.<62>)")
	wantText(t, concat(b, a), "(<62>.<61>)")
	wantText(t, alternative(a, b), "(<61>|<62>)")
	wantText(t, alternative(b, a), "(<62>|<61>)")
	wantText(t, star(a), "(<61>*)")
	wantText(t, group(1, a), "(1:<61>)")
	wantText(t, renewal(a), "(~<61>)")
	wantText(t, concat(a, renewal(a)), "(<61>.(~<61>))")
	wantText(t, star(star(nothing())), "((0*)*)")
	wantText(t, renewal(renewal(empty())), "(~(~1))")
	wantText(t, concat(concat(a, b), concat(nothing(), empty())), "((<61>.<62>).(0.1))")
	wantText(t, alternative(alternative(a, empty()), alternative(b, nothing())), "((<61>|1)|(<62>|0))")
	wantText(t,
		concat(group(1, alternative(set("ab"), star(renewal(group(12, b))))), alternative(concat(a, empty()), set(""))),
		"((1:(<6162>|((~(12:<62>))*))).((<61>.1)|<>))")
}

func TestTextOfSets(t *testing.T) {
	for _, c := range []struct{ elements, want string }{
		{"", "<>"},
		{"\x00", "<00>"},
		{"\x01", "<01>"},
		{"\x09", "<09>"},
		{"\x0a", "<0a>"},
		{"\x0f\x10", "<0f10>"},
		{"0", "<30>"},
		{"9", "<39>"},
		{"jklmno", "<6a6b6c6d6e6f>"},
		{"ba", "<6162>"},
		{"cab", "<616263>"},
		{"ac", "<6163>"},
		{"\x9f\xa0\xab\xcd\xef\xfe", "<9fa0abcdeffe>"},
		{"\xff", "<ff>"},
		{"\xff\x00", "<00ff>"},
		{"\xff\x80\x7f\x40\x3f\xbf\xc0", "<3f407f80bfc0ff>"},
	} {
		wantText(t, set(c.elements), c.want)
	}
	all := "<"
	for b := range 256 {
		wantText(t, core.Core{Kind: 2, Set: byteset.Of(byte(b))}, fmt.Sprintf("<%02x>", b))
		all += fmt.Sprintf("%02x", b)
	}
	wantText(t, core.Core{Kind: 2, Set: byteset.All()}, all+">")
	wantText(t, core.Core{Kind: 2, Set: byteset.All(), L: []core.Core{}}, all+">")
}

func TestTextOfGroups(t *testing.T) {
	for n := 1; n <= api.MaxGroups; n++ {
		wantText(t, group(n, set("a")), fmt.Sprintf("(%d:<61>)", n))
	}
	wantText(t, group(9, set("a")), "(9:<61>)")
	wantText(t, group(10, set("a")), "(10:<61>)")
	wantText(t, group(32, group(1, set("a"))), "(32:(1:<61>))")
	// All others are not valid; nor have they a text.
	for _, n := range []int{0, -1, -10, api.MaxGroups + 1, 100, 1234, math.MaxInt, math.MinInt} {
		if got := core.Text(concat(set("a"), group(n, set("b")))); got != "" {
			t.Errorf("Text of a group %d: %q", n, got)
		}
	}
}

// modelText is the text of a valid core, as the chapter tells it.
func modelText(c core.Core) string {
	if len(c.L) > 0 && c.L[0].Kind < 0 {
		return ""
	}
	var l [2]string
	for i, x := range c.L[:min(2, len(c.L))] {
		l[i] = modelText(x)
	}
	switch c.Kind {
	case 0, 1:
		return fmt.Sprint(c.Kind)
	case 2:
		return fmt.Sprintf("<%x>", string(c.Set.List()))
	case 6:
		return fmt.Sprintf("(%d:%s)", c.N, l[0])
	}
	return strings.NewReplacer("a", l[0], "b", l[1]).Replace(map[int]string{3: "(a.b)", 4: "(a|b)", 5: "(a*)", 7: "(~a)"}[c.Kind])
}

// TestTextOfMany asks at the limit of the size, wide and deep.
func TestTextOfMany(t *testing.T) {
	wantText := func(c core.Core, want string) {
		t.Helper()
		if got := core.Text(c); got != want {
			t.Errorf("Text of %s: %d bytes, want %d", show(c), len(got), len(want))
		}
	}
	wantText(nested(api.MaxCore-2, set("a")), strings.Repeat("(~(", 999)+"<61>"+strings.Repeat("*))", 999))
	wantText(vine(api.MaxCore-1, true), strings.Repeat("(<62>.", 999)+"<61>"+strings.Repeat(")", 999))
	wantText(vine(api.MaxCore-1, false), strings.Repeat("(", 999)+"<61>"+strings.Repeat("|<62>)", 999))
	wantText(balanced(api.MaxCore), modelText(balanced(api.MaxCore)))
	wantText(nested(api.MaxCore, set("a")), "")
	wantText(vine(api.MaxCore+1, true), "")
	all := core.Core{Kind: 2, Set: byteset.All()}
	c, want := all, modelText(all)
	for range 999 {
		c, want = concat(c, all), "("+want+"."+modelText(all)+")"
	}
	wantText(c, want)
}
