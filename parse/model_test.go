package parse_test

import (
	"math/rand"
	"slices"
	"strings"
	"testing"

	"catchpole/api"
	"catchpole/parse"
	"catchpole/token"
	"catchpole/tree"
)

// modelFault returns the offset at which the tokens of a text of n bytes cease
// to have the form of a pattern, if they do. It reads no tree: all that it knows
// at a token is whether a piece must follow, whether a repetition may, and how
// many parentheses are open.
func modelFault(tokens []token.Token, n int) (int, bool) {
	end, needed, repeatable, open := n, true, false, 0
	for i, t := range tokens {
		allowed := false
		switch t.Kind {
		case 1:
			allowed, needed, repeatable = true, false, true
		case 2, 3:
			allowed, needed, repeatable = true, true, false
			open++
		case 4:
			allowed = !needed && open > 0
			repeatable = true
			open--
		case 5:
			allowed = !needed
			needed, repeatable = true, false
		case 6:
			allowed = repeatable
			repeatable = false
		case 7:
			allowed = i == 0
		case 8:
			allowed = i == len(tokens)-1
			end = t.At
		}
		if !allowed {
			return t.At, true
		}
	}
	return end, needed || open > 0
}

// tokensOf are the tokens of a valid pattern, without their offsets.
func tokensOf(p tree.Pattern) []token.Token {
	var tokens []token.Token
	if p.Start {
		tokens = append(tokens, token.Token{Kind: 7})
	}
	tokens = append(tokens, tokensOfNode(p.Root)...)
	if p.End {
		tokens = append(tokens, token.Token{Kind: 8})
	}
	return tokens
}

// tokensOfNode are those of a node: no other node of a valid pattern has the
// same ones, groups' numbers aside.
func tokensOfNode(n tree.Node) []token.Token {
	var within []token.Token
	for i, x := range n.L {
		if n.Kind == 3 && i > 0 {
			within = append(within, token.Token{Kind: 5})
		}
		within = append(within, tokensOfNode(x)...)
	}
	switch n.Kind {
	case 1:
		return []token.Token{{Kind: 1, Set: n.Set}}
	case 4:
		return append(within, token.Token{Kind: 6, Lo: n.Lo, Hi: n.Hi})
	case 5:
		return append(append([]token.Token{{Kind: 2}}, within...), token.Token{Kind: 4})
	case 6:
		return append(append([]token.Token{{Kind: 3}}, within...), token.Token{Kind: 4})
	}
	return within
}

// wantModel asks for what the model says of p, which is within the limits.
func wantModel(t *testing.T, p string) {
	t.Helper()
	tokens, n, errno := token.Cut(p)
	if errno != api.OK {
		wantError(t, p, n, errno)
		return
	}
	if at, ok := modelFault(tokens, len(p)); ok {
		wantError(t, p, at, api.EFORM)
		return
	}
	got, n, errno := parse.Of(p)
	if errno != api.OK || n != len(p) {
		t.Errorf("Of(%q): %d, %v, want %d and OK", p, n, errno, len(p))
		return
	}
	back := tokensOf(got)
	same := len(back) == len(tokens)
	for i := 0; same && i < len(tokens); i++ {
		tokens[i].At = 0
		same = back[i] == tokens[i]
	}
	if !same || !tree.Good(got) {
		t.Errorf("Of(%q): %+v", p, got)
	}
}

// eachText does something with each text of at most that many parts.
func eachText(parts []string, most int, ahead string, do func(string)) {
	do(ahead)
	if most == 0 {
		return
	}
	for _, part := range parts {
		eachText(parts, most-1, ahead+part, do)
	}
}

// TestAllShortPatterns asks for all patterns of few tokens, and of few bytes.
func TestAllShortPatterns(t *testing.T) {
	for _, c := range []struct {
		parts string
		most  int
	}{
		{"a * ( (?: ) | ^ $", 6},
		{"a ( ) |", 7},
		{"a {2,3} (?: ) |", 6},
		{"a * ( )", 7},
		{"[^a] \\$ ^ $ | ( )", 5},
		{"a ( ? : ) | { 2 } ^ $", 4},
	} {
		count := 0
		eachText(strings.Fields(c.parts), c.most, "", func(p string) {
			count++
			wantModel(t, p)
		})
		if count < 1000 {
			t.Errorf("%d texts of %q", count, c.parts)
		}
	}
}

// TestAllPairsOfBytes asks for all texts of two bytes.
func TestAllPairsOfBytes(t *testing.T) {
	for a := range 256 {
		wantModel(t, string([]byte{byte(a)}))
		for b := range 256 {
			wantModel(t, string([]byte{byte(a), byte(b)}))
		}
	}
}

// Texts of tokens.
var (
	sets        = []string{"a", "b", "\x00", "\xff", ".", "\\(", "[a-c]", "[^)|]"}
	repetitions = []string{"*", "+", "?", "{2}", "{2,}", "{0,255}"}
	opening     = []string{"(", "(?:"}
	parts       = slices.Concat(sets, repetitions, opening, []string{")", "|", "^", "$"})
)

// one is any of l.
func one(r *rand.Rand, l []string) string { return l[r.Intn(len(l))] }

// pattern is one of at most that many levels of parentheses, as parts.
func pattern(r *rand.Rand, levels int) []string {
	var p []string
	for i := range 1 + r.Intn(3) {
		if i > 0 {
			p = append(p, "|")
		}
		for range 1 + r.Intn(3) {
			if levels > 0 && r.Intn(3) == 0 {
				p = append(p, one(r, opening))
				p = append(append(p, pattern(r, levels-1)...), ")")
			} else {
				p = append(p, one(r, sets))
			}
			if r.Intn(3) == 0 {
				p = append(p, one(r, repetitions))
			}
		}
	}
	return p
}

// TestManyPatterns asks for patterns that are valid, and for each of them with
// one part left out, put in, or put in the place of another.
func TestManyPatterns(t *testing.T) {
	r := rand.New(rand.NewSource(1))
	for range 25 {
		p := pattern(r, 2)
		if r.Intn(2) == 0 {
			p = append([]string{"^"}, p...)
		}
		if r.Intn(2) == 0 {
			p = append(p, "$")
		}
		whole := strings.Join(p, "")
		if _, _, errno := parse.Of(whole); errno != api.OK {
			t.Errorf("Of(%q): %v", whole, errno)
		}
		wantModel(t, whole)
		for i := range p {
			ahead, behind := strings.Join(p[:i], ""), strings.Join(p[i+1:], "")
			wantModel(t, ahead+behind)
			for _, part := range parts {
				wantModel(t, ahead+part+behind)
				wantModel(t, ahead+part+p[i]+behind)
			}
		}
	}
}
