package token_test

import (
	"fmt"
	"slices"
	"strings"
	"testing"

	"catchpole/api"
	"catchpole/byteset"
	"catchpole/class"
	"catchpole/token"
)

func span(lo, hi byte) byteset.Set { return byteset.Range(lo, hi) }

// named is the class of a name that there is.
func named(name string) byteset.Set {
	s, _ := class.Named(name)
	return s
}

func TestExpression(t *testing.T) {
	for _, c := range []struct {
		p    string
		want byteset.Set
	}{
		{"[a]", of("a")},
		{"[abc]", of("abc")},
		{"[cab]", of("abc")},
		{"[aa]", of("a")},
		{"[\x00]", byteset.Of(0)},
		{"[\xff\x80]", byteset.Of(255, 128)},
		{"[.]", of(".")},
		{"[a.=:]", of("a.=:")},
		{"[.a.]", of(".a")},
		{"[:alpha:]", of(":alph")},
		{"[*+?{}()|$]", of("*+?{}()|$")},
		{"[\\]", of("\\")},
		{"[\\n]", of("\\n")},
		{"[a\\]", of("a\\")},
		{"[{256}]", of("{256}")},
		{"[(?:]", of("(?:")},

		{"[^a]", of("a").Not()},
		{"[^abc]", of("abc").Not()},
		{"[^\x00]", span(1, 255)},
		{"[^\xff]", span(0, 254)},
		{"[^a-z]", span('a', 'z').Not()},
		{"[^\x00-\xfe]", byteset.Of(255)},
		{"[^[:alpha:]0]", named("alpha").Or(of("0")).Not()},

		{"[]]", of("]")},
		{"[^]]", of("]").Not()},
		{"[]a]", of("]a")},
		{"[^]a]", of("]a").Not()},
		{"[]-a]", span(']', 'a')},
		{"[^]-a]", span(']', 'a').Not()},
		{"[]-]", of("]-")},
		{"[]-^]", of("]^")},
		{"[][]", of("[]")},

		{"[-]", of("-")},
		{"[^-]", of("-").Not()},
		{"[-a]", of("-a")},
		{"[^-a]", of("-a").Not()},
		{"[-a-c]", of("-abc")},
		{"[a-]", of("-a")},
		{"[^a-]", of("-a").Not()},
		{"[a-c-]", of("-abc")},
		{"[ab-]", of("-ab")},
		{"[--]", of("-")},
		{"[-a-]", of("-a")},
		{"[---]", of("-")},
		{"[----]", of("-")},
		{"[--/]", span('-', '/')},
		{"[^--/]", span('-', '/').Not()},
		{"[+--]", span('+', '-')},
		{"[+---]", span('+', '-')},
		{"[x+--]", span('+', '-').Or(of("x"))},
		{"[+--a]", span('+', '-').Or(of("a"))},
		{"[[:digit:]-]", named("digit").Or(of("-"))},
		{"[-[:digit:]]", named("digit").Or(of("-"))},
		{"[^-[:digit:]-]", named("digit").Or(of("-")).Not()},

		{"[a^]", of("a^")},
		{"[^^]", of("^").Not()},
		{"[^^a]", of("^a").Not()},
		{"[^a^]", of("a^").Not()},
		{"[-^]", of("-^")},
		{"[]^]", of("]^")},
		{"[Z-^]", span('Z', '^')},
		{"[a^-`]", of("a^_`")},

		{"[a-c]", of("abc")},
		{"[a-a]", of("a")},
		{"[a-b]", of("ab")},
		{"[\x00-\x00]", byteset.Of(0)},
		{"[\xff-\xff]", byteset.Of(255)},
		{"[\x00-\xff]", byteset.All()},
		{"[\x7f-\x80]", byteset.Of(127, 128)},
		{"[\\-^]", of("\\]^")},
		{"[[-^]", of("[\\]^")},
		{"[0-9a-f]", of("0123456789abcdef")},
		{"[a-cc-e]", of("abcde")},
		{"[a-eb-d]", of("abcde")},
		{"[b-da-e]", of("abcde")},
		{"[a-cb]", of("abc")},
		{"[xa-cy]", of("abcxy")},
		{"[a-c0]", of("abc0")},
		{"[!-.]", span('!', '.')},

		{"[[]", of("[")},
		{"[^[]", of("[").Not()},
		{"[[a]", of("[a")},
		{"[a[]", of("[a")},
		{"[[[]", of("[")},
		{"[[-]", of("[-")},
		{"[A-[]", span('A', '[')},
		{"[[-[]", of("[")},
		{"[[-a]", span('[', 'a')},
		{"[A-[a]", span('A', '[').Or(of("a"))},
		{"[a:[]", of("a:[")},

		{"[[:alpha:]]", named("alpha")},
		{"[[:alpha:][:digit:]]", named("alnum")},
		{"[[:alpha:]a-z_]", named("alpha").Or(of("_"))},
		{"[_[:alpha:]0-9]", named("alnum").Or(of("_"))},
		{"[^[:alpha:][:digit:]]", named("alnum").Not()},
		{"[[:cntrl:][:print:]\x80-\xff]", byteset.All()},
		{"[][:upper:]]", named("upper").Or(of("]"))},
		{"[[:upper:][]", named("upper").Or(of("["))},
		{"[[:upper:]:]", named("upper").Or(of(":"))},
	} {
		wantTokens(t, c.p, set(c.want))
		next := token.Token{Kind: 1, Set: of("]"), At: len(c.p)}
		wantTokens(t, c.p+"]", set(c.want), next)
	}
}

// TestExpressionEnds asks that an expression ends at its first `]` that is not
// the first item.
func TestExpressionEnds(t *testing.T) {
	wantTokens(t, "[a-]-c]", set(of("-a")),
		token.Token{Kind: 1, Set: of("-"), At: 4},
		token.Token{Kind: 1, Set: of("c"), At: 5},
		token.Token{Kind: 1, Set: of("]"), At: 6})
	wantTokens(t, "[]]]", set(of("]")), token.Token{Kind: 1, Set: of("]"), At: 3})
	wantTokens(t, "[\\]]", set(of("\\")), token.Token{Kind: 1, Set: of("]"), At: 3})
	wantTokens(t, "[^-]*", set(of("-").Not()), token.Token{Kind: 6, Hi: -1, At: 4})
	wantTokens(t, "[a][b]", set(of("a")), token.Token{Kind: 1, Set: of("b"), At: 3})
	wantTokens(t, "[:alpha:]]", set(of(":alph")), token.Token{Kind: 1, Set: of("]"), At: 9})
	wantError(t, "[[][", 3, api.EFORM)
	wantError(t, "[[][]", 3, api.EFORM)
}

func TestExpressionOfEachByte(t *testing.T) {
	for b := range 256 {
		x, s := string([]byte{byte(b)}), byteset.Of(byte(b))
		if b != '^' {
			wantTokens(t, "["+x+"]", set(s))
		}
		wantTokens(t, "[^"+x+"]", set(s.Not()))
		if b != ']' && b != '-' {
			wantTokens(t, "[q"+x+"]", set(s.Or(of("q"))))
			wantTokens(t, "[^q"+x+"]", set(s.Or(of("q")).Not()))
		}
	}
}

func TestEachRange(t *testing.T) {
	for lo := range 256 {
		for hi := range 256 {
			p := string([]byte{'[', 'Q', byte(lo), '-', byte(hi), ']'})
			switch {
			case lo == ']' || lo == '-' || hi == ']':
				// Neither a `]` nor a `-` begins a range here, and no `]` ends one.
			case hi < lo:
				wantError(t, p, 0, api.EFORM)
			default:
				wantTokens(t, p, set(span(byte(lo), byte(hi)).Or(of("Q"))))
			}
		}
	}
	for _, p := range []string{"[b-a]", "[^b-a]", "[\xff-\x00]", "[\x80-\x7f]", "[a--]", "[a-[]", "[]-[]", "[^]-[]", "[-a-A]", "[xb-a]", "[a-cz-y]", "[b-a", "[[-.]"} {
		wantError(t, p, 0, api.EFORM)
	}
}

func TestEachClass(t *testing.T) {
	if len(class.Names()) != 12 {
		t.Fatalf("%d classes", len(class.Names()))
	}
	for _, name := range class.Names() {
		s, x := named(name), "[:"+name+":]"
		wantTokens(t, "["+x+"]", set(s))
		wantTokens(t, "[^"+x+"]", set(s.Not()))
		wantTokens(t, "["+x+x+"]", set(s))
		wantTokens(t, "[Q"+x+"\xff]", set(s.Or(of("Q\xff"))))
		wantTokens(t, "["+x+"-]", set(s.Or(of("-"))))
		for _, p := range []string{
			"[" + x + "-z]", "[" + x + "-", "[" + x + "-" + x + "]", "[" + x + "--]", "[" + x + "--z]",
			"[!-" + x + "]", "[a-" + x + "]", "[]-" + x + "]", "[--" + x + "]", "[^ -" + x + "]",
			"[" + x, "[[:" + name, "[[:" + name + ":", "[[:" + name + "]", "[[:" + name + "]]", "[[:" + name + "::]]",
			"[[: " + name + ":]]", "[[:" + name + " :]]", "[[:" + strings.ToUpper(name) + ":]]", "[[:" + name[:len(name)-1] + ":]]",
			"[[:" + name + "\x00:]]", "[[::" + name + ":]]", "[[:^" + name + ":]]", "[[:" + name + "x:]]",
		} {
			wantError(t, p, 0, api.EFORM)
		}
	}
}

func TestNoClass(t *testing.T) {
	for _, p := range []string{
		"[[:no:]]", "[[::]]", "[[::]", "[[:::]]", "[[:", "[[:]", "[[:]]", "[[:a", "[[:a]", "[[:a:", "[[:a:x]]",
		"[[:]:]]", "[[:[:alpha:]:]]", "[[:[.:]]", "[[:[=:]]", "[[:[.", "[[:\x00:]]", "[[:alpha: ]]", "[a[:no:]b]",
		"[[:alpha:][:no:]]", "[[:alpha:][:digit]", "[a-[:no:]]", "[a-[:", "[a-[:]", "[[:word:]]", "[[:ascii:]]",
	} {
		wantError(t, p, 0, api.EFORM)
	}
}

// TestNoCollation asks for `[.` and `[=`, as items and where a range would end.
func TestNoCollation(t *testing.T) {
	for _, mark := range []string{"[.", "[="} {
		for _, ahead := range []string{
			"[", "[^", "[a", "[]", "[^]", "[-", "[[", "[ab", "[a-c", "[[:alpha:]",
			"[a-", "[!-", "[^a-", "[z-", "[]-", "[^]-", "[--", "[^--", "[[-", "[xa-", "[a-c!-", "[[:alpha:]a-",
		} {
			for _, behind := range []string{"", "a", "a.]]", "-.]]", "=]]", "]", ".]-z]", "[:no:]]", "b-a]"} {
				wantError(t, ahead+mark+behind, 0, api.EBACK)
				wantError(t, "x"+ahead+mark+behind, 1, api.EBACK)
			}
		}
		// What is wrong ahead of it is the first error.
		for _, ahead := range []string{"[b-a", "[a-c-", "[a-c-e", "[[:no:]", "[[:", "[[:alpha:]-", "[a-[:alpha:]", "[--/-"} {
			wantError(t, ahead+mark+"a.]]", 0, api.EFORM)
		}
	}
}

// TestHyphenElsewhere asks for each place at which a `-` may not stand.
func TestHyphenElsewhere(t *testing.T) {
	for _, p := range []string{
		"[a-c-e]", "[a-c-e", "[^a-c-e]", "[a-c-c]", "[a-c--]", "[a-c--/]", "[--/-0]", "[-----]", "[]-a-c]",
		"[!---a]", "[!--a-c-d]", "[a-c-", "[+----]", "[[:digit:]-9]", "[[:digit:]--]", "[-a-c-d]", "[[-a-b]",
	} {
		wantError(t, p, 0, api.EFORM)
	}
}

// TestNotClosed ends an expression at each place ahead of its `]`.
func TestNotClosed(t *testing.T) {
	for _, p := range []string{
		"[abc]", "[^abc]", "[]abc]", "[^]abc]", "[-a]", "[^--/]", "[a-c]", "[a-ce-g]", "[a-]", "[[a]", "[a-c[:digit:]x-]",
		"[^]a-c[:digit:]x-]", "[[:alpha:][:digit:]]", "[A-[]", "[\\]", "[^^]", "[^-]", "[---]", "[^]]",
	} {
		if _, n, errno := token.Cut(p); n != len(p) || errno != api.OK {
			t.Errorf("Cut(%q): %d, %d", p, n, errno)
		}
		for n := 1; n < len(p); n++ {
			wantError(t, p[:n], 0, api.EFORM)
			wantError(t, "(?:"+p[:n], 3, api.EFORM)
		}
	}
	wantError(t, "[]", 0, api.EFORM)
	wantError(t, "[^]", 0, api.EFORM)
	wantError(t, "["+strings.Repeat("a", api.MaxText-1), 0, api.EFORM)
}

func TestNoByte(t *testing.T) {
	for _, p := range []string{
		"[^\x00-\xff]", "[^\x00-\x7f\x80-\xff]", "[^b-\xff\x00-c]", "[^[:cntrl:][:print:]\x80-\xff]", "[^[:alpha:]\x00-\xff-]",
	} {
		wantError(t, p, 0, api.EFORM)
		wantError(t, "a"+p+"*", 1, api.EFORM)
	}
	wantTokens(t, "[^\x00-\x7f\x81-\xff]", set(byteset.Of(128)))
}

// way is one way to read the items of a bracket expression: their set, and the
// bytes that are left behind it.
type way struct {
	set  byteset.Set
	rest string
}

// items are all ways to read items and the `]` behind them by the words of the
// chapter. It looks ahead nowhere, but follows each way to its end.
func items(s string, first bool) []way {
	var ways []way
	if s != "" && s[0] == ']' && !first {
		ways = append(ways, way{byteset.Set{}, s[1:]})
	}
	for _, name := range class.Names() {
		if rest, ok := strings.CutPrefix(s, "[:"+name+":]"); ok {
			ways = append(ways, join(named(name), items(rest, false))...)
		}
	}
	if rest, ok := strings.CutPrefix(s, "-]"); ok {
		ways = append(ways, way{of("-"), rest})
	}
	if s == "" || s[0] == ']' && !first || s[0] == '-' && !first || marked(s) {
		return ways
	}
	if !strings.HasPrefix(s, "-]") {
		ways = append(ways, join(byteset.Of(s[0]), items(s[1:], false))...)
	}
	if len(s) > 2 && s[1] == '-' && s[2] != ']' && s[0] <= s[2] && !marked(s[2:]) {
		ways = append(ways, join(span(s[0], s[2]), items(s[3:], false))...)
	}
	return ways
}

// marked reports whether s begins with a text that is never a byte.
func marked(s string) bool {
	return strings.HasPrefix(s, "[.") || strings.HasPrefix(s, "[=") || strings.HasPrefix(s, "[:")
}

func join(s byteset.Set, ways []way) []way {
	for i := range ways {
		ways[i].set = ways[i].set.Or(s)
	}
	return ways
}

// modelExpression reads a whole bracket expression, and there is but one way to
// do it.
func modelExpression(t *testing.T, p string) (byteset.Set, bool) {
	t.Helper()
	inner, complement := strings.CutPrefix(p[1:], "^")
	var sets []byteset.Set
	for _, w := range items(inner, true) {
		if w.rest == "" {
			sets = append(sets, w.set)
		}
	}
	if len(sets) == 0 {
		return byteset.Set{}, false
	}
	if len(sets) > 1 {
		t.Fatalf("%q is read in %d ways", p, len(sets))
	}
	if complement {
		return sets[0].Not(), sets[0] != byteset.All()
	}
	return sets[0], true
}

// TestExpressionModel holds all short expressions against the model. A text that
// the model does not read whole is an error or has further tokens.
func TestExpressionModel(t *testing.T) {
	parts := []string{"[", "]", "^", "-", "a", "c", ".", ":", "[:digit:]", "\x00-\xff"}
	texts := []string{"["}
	read := 0
	for range 6 {
		var longer []string
		for _, p := range texts {
			for _, x := range parts {
				longer = append(longer, p+x)
			}
		}
		texts = longer
		if len(texts) > 100000 {
			texts = slices.DeleteFunc(texts, func(p string) bool { return !strings.HasSuffix(p, "]") })
		}
		for _, p := range texts {
			want, ok := modelExpression(t, p)
			if ok {
				read++
				wantTokens(t, p, set(want))
			} else if got, _, errno := token.Cut(p); errno == api.OK && len(got) < 2 {
				t.Fatalf("Cut(%q) = %v", p, got)
			}
		}
	}
	if read < 1000 {
		t.Errorf("%d expressions are read", read)
	}
}

func ExampleCut_bracket() {
	tokens, _, _ := token.Cut("[^[:lower:]_-][]-a]")
	for _, t := range tokens {
		fmt.Println(t.At, t.Set.Runs())
	}
	// Output:
	// 0 [{0 44} {46 94} {96 96} {123 255}]
	// 14 [{93 97}]
}
