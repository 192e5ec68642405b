package token_test

import (
	"fmt"
	"slices"
	"strings"
	"testing"

	"catchpole/api"
	"catchpole/byteset"
	"catchpole/token"
)

// The functions with the signatures that the chapter lists: another one would
// not build.
var (
	_ func(string) ([]token.Token, int, api.Errno) = token.Cut
	_                                              = struct {
		Kind       int
		Set        byteset.Set
		Lo, Hi, At int
	}(token.Token{})
)

func of(text string) byteset.Set { return byteset.Of([]byte(text)...) }

func set(s byteset.Set) token.Token { return token.Token{Kind: 1, Set: s} }

func repeat(lo, hi int) token.Token { return token.Token{Kind: 6, Lo: lo, Hi: hi} }

// wantTokens asks that p is cut into just these tokens.
func wantTokens(t *testing.T, p string, want ...token.Token) {
	t.Helper()
	got, n, errno := token.Cut(p)
	if !slices.Equal(got, want) || n != len(p) || errno != api.OK {
		t.Errorf("Cut(%q) = %v, %d, %d, want %v, %d", p, got, n, errno, want, len(p))
	}
}

// wantError asks that p is refused, and that no token stands beside the error.
func wantError(t *testing.T, p string, at int, want api.Errno) {
	t.Helper()
	if got, n, errno := token.Cut(p); len(got) != 0 || n != at || errno != want {
		t.Errorf("Cut(%q) = %v, %d, %d, want no token, %d, %d", p, got, n, errno, at, want)
	}
}

// piece is the text of one token.
type piece struct {
	text string
	want token.Token
}

// pieces has each kind of token; no text of several of them can be cut in
// another way than between them.
func pieces() []piece {
	return []piece{
		{"a", set(of("a"))},
		{"\x00", set(byteset.Of(0))},
		{"\xff", set(byteset.Of(255))},
		{"-", set(of("-"))},
		{"0", set(of("0"))},
		{".", set(byteset.All())},
		{"\\.", set(of("."))},
		{"\\\\", set(of("\\"))},
		{"[ab]", set(of("ab"))},
		{"[^]]", set(of("]").Not())},
		{"]", set(of("]"))},
		{"}", set(of("}"))},
		{"(", token.Token{Kind: 2}},
		{"(?:", token.Token{Kind: 3}},
		{")", token.Token{Kind: 4}},
		{"|", token.Token{Kind: 5}},
		{"*", repeat(0, -1)},
		{"+", repeat(1, -1)},
		{"?", repeat(0, 1)},
		{"{3}", repeat(3, 3)},
		{"{12,}", repeat(12, -1)},
		{"{0,255}", repeat(0, 255)},
		{"^", token.Token{Kind: 7}},
		{"$", token.Token{Kind: 8}},
	}
}

// flaw is a text that is refused as one token, whatever follows it.
type flaw struct {
	text string
	want api.Errno
}

func flaws() []flaw {
	return []flaw{
		{"{x", api.EFORM},
		{"{256", api.ELARGE},
		{"{2,256", api.ELARGE},
		{"{2,1}", api.EFORM},
		{"\\1", api.EBACK},
		{"\\n", api.EFORM},
		{"[[.", api.EBACK},
		{"[a[=", api.EBACK},
		{"[a-[=", api.EBACK},
		{"[b-a", api.EFORM},
		{"[a-c-e", api.EFORM},
		{"[[:no:]", api.EFORM},
		{"[^\x00-\xff]", api.EFORM},
	}
}

func TestEachKind(t *testing.T) {
	for _, c := range pieces() {
		wantTokens(t, c.text, c.want)
	}
}

func TestEmpty(t *testing.T) { wantTokens(t, "") }

// TestSeveral asks for At, for the order of the tokens, and that no token hangs
// on those beside it.
func TestSeveral(t *testing.T) {
	all := pieces()
	for _, a := range all {
		for _, b := range all {
			for _, c := range all {
				want := []token.Token{a.want, b.want, c.want}
				want[1].At = len(a.text)
				want[2].At = len(a.text) + len(b.text)
				wantTokens(t, a.text+b.text+c.text, want...)
			}
		}
	}
}

func TestSeveralByHand(t *testing.T) {
	wantTokens(t, "^(a|[^b-d]+\\$){2,30}(?:.)?$",
		token.Token{Kind: 7, At: 0},
		token.Token{Kind: 2, At: 1},
		token.Token{Kind: 1, Set: of("a"), At: 2},
		token.Token{Kind: 5, At: 3},
		token.Token{Kind: 1, Set: of("bcd").Not(), At: 4},
		token.Token{Kind: 6, Lo: 1, Hi: -1, At: 10},
		token.Token{Kind: 1, Set: of("$"), At: 11},
		token.Token{Kind: 4, At: 13},
		token.Token{Kind: 6, Lo: 2, Hi: 30, At: 14},
		token.Token{Kind: 3, At: 20},
		token.Token{Kind: 1, Set: byteset.All(), At: 23},
		token.Token{Kind: 4, At: 24},
		token.Token{Kind: 6, Lo: 0, Hi: 1, At: 25},
		token.Token{Kind: 8, At: 26},
	)
}

// TestNoGrammar asks that tokens are cut even where no pattern has them.
func TestNoGrammar(t *testing.T) {
	wantTokens(t, "**)", repeat(0, -1), token.Token{Kind: 6, Hi: -1, At: 1}, token.Token{Kind: 4, At: 2})
	wantTokens(t, "$^", token.Token{Kind: 8}, token.Token{Kind: 7, At: 1})
}

// TestErrorAt asks for the offset of the token in which an error occurs, and for
// the first of several errors.
func TestErrorAt(t *testing.T) {
	for _, f := range flaws() {
		wantError(t, f.text, 0, f.want)
		for _, p := range pieces() {
			wantError(t, p.text+f.text, len(p.text), f.want)
			wantError(t, p.text+p.text+f.text, 2*len(p.text), f.want)
			wantError(t, f.text+p.text, 0, f.want)
		}
		for _, g := range flaws() {
			wantError(t, f.text+g.text, 0, f.want)
			wantError(t, "ab"+f.text+g.text, 2, f.want)
		}
	}
	wantError(t, "a[b", 1, api.EFORM)
	wantError(t, "a{2}{3,4}[xyz]{5,[[.", 14, api.EFORM)
	wantError(t, "[^]a-c]\\7{256}", 7, api.EBACK)
	wantError(t, "\\{\\}{256}\\7", 4, api.ELARGE)
}

func TestLength(t *testing.T) {
	if api.MaxText != 1024 {
		t.Fatalf("MaxText is %d", api.MaxText)
	}
	var want []token.Token
	for at := range api.MaxText {
		want = append(want, token.Token{Kind: 1, Set: of("a"), At: at})
	}
	wantTokens(t, strings.Repeat("a", api.MaxText-1), want[:api.MaxText-1]...)
	wantTokens(t, strings.Repeat("a", api.MaxText), want...)
	wantTokens(t, "["+strings.Repeat("xy", api.MaxText/2-1)+"]", set(of("xy")))
	for _, text := range []string{"a", "(", "*", "\x00", "\xff", "[", "{", "\\", "\\1", "[[.", "{256}", "a{2}", "^$"} {
		long := strings.Repeat(text, api.MaxText+1)
		wantError(t, long[:api.MaxText+1], api.MaxText, api.ELARGE)
		wantError(t, long+long+long, api.MaxText, api.ELARGE)
	}
	wantError(t, strings.Repeat("a", api.MaxText-1)+"\\", api.MaxText-1, api.EFORM)
	wantError(t, strings.Repeat("a", api.MaxText-2)+"\\1", api.MaxText-2, api.EBACK)
	wantError(t, strings.Repeat("a", api.MaxText-1)+"\\1", api.MaxText, api.ELARGE)
}

func TestParentheses(t *testing.T) {
	colon := set(of(":"))
	wantTokens(t, "(", token.Token{Kind: 2})
	wantTokens(t, "(?", token.Token{Kind: 2}, token.Token{Kind: 6, Lo: 0, Hi: 1, At: 1})
	wantTokens(t, "(?:", token.Token{Kind: 3})
	colon.At = 1
	wantTokens(t, "(:", token.Token{Kind: 2}, colon)
	colon.At = 2
	wantTokens(t, "(*:", token.Token{Kind: 2}, token.Token{Kind: 6, Hi: -1, At: 1}, colon)
	colon.At = 3
	wantTokens(t, "(?::", token.Token{Kind: 3}, colon)
	wantTokens(t, "(??:", token.Token{Kind: 2}, token.Token{Kind: 6, Hi: 1, At: 1}, token.Token{Kind: 6, Hi: 1, At: 2}, colon)
	wantTokens(t, "((?:", token.Token{Kind: 2}, token.Token{Kind: 3, At: 1})
	wantTokens(t, "(?:(", token.Token{Kind: 3}, token.Token{Kind: 2, At: 3})
	wantTokens(t, "(?)", token.Token{Kind: 2}, token.Token{Kind: 6, Hi: 1, At: 1}, token.Token{Kind: 4, At: 2})
	wantTokens(t, "\\(?", set(of("(")), token.Token{Kind: 6, Hi: 1, At: 2})
}

func TestBraces(t *testing.T) {
	for _, c := range []struct {
		p      string
		lo, hi int
	}{
		{"{0}", 0, 0},
		{"{1}", 1, 1},
		{"{9}", 9, 9},
		{"{10}", 10, 10},
		{"{255}", 255, 255},
		{"{007}", 7, 7},
		{"{00}", 0, 0},
		{"{0000255}", 255, 255},
		{"{0,}", 0, -1},
		{"{7,}", 7, -1},
		{"{42,}", 42, -1},
		{"{255,}", 255, -1},
		{"{000255,}", 255, -1},
		{"{0,0}", 0, 0},
		{"{0,1}", 0, 1},
		{"{3,3}", 3, 3},
		{"{3,4}", 3, 4},
		{"{9,10}", 9, 10},
		{"{12,123}", 12, 123},
		{"{0,255}", 0, 255},
		{"{255,255}", 255, 255},
		{"{1,0255}", 1, 255},
		{"{01,0002}", 1, 2},
		{"{10,0010}", 10, 10},
	} {
		wantTokens(t, c.p, repeat(c.lo, c.hi))
	}
	zeros := strings.Repeat("0", api.MaxText-5)
	wantTokens(t, "{"+zeros+"255}", repeat(255, 255))
	wantTokens(t, "{"+zeros+"1,}", repeat(1, -1))
	wantTokens(t, "{1,"+zeros[2:]+"23}", repeat(1, 23))
}

func TestBracesOfEachNumber(t *testing.T) {
	for m := range api.MaxCount + 1 {
		wantTokens(t, fmt.Sprintf("{%d}", m), repeat(m, m))
		wantTokens(t, fmt.Sprintf("{%d,}", m), repeat(m, -1))
		for n := range api.MaxCount + 1 {
			p := fmt.Sprintf("{%d,%d}", m, n)
			if n < m {
				wantError(t, p, 0, api.EFORM)
			} else {
				wantTokens(t, p, repeat(m, n))
			}
		}
	}
}

func TestBracesTooGreat(t *testing.T) {
	nines := strings.Repeat("9", 1000)
	great := []string{
		"256", "0256", "257", "260", "300", "1000", "2550", "2559", "65536", "65537", "99999",
		"4294967296", "4294967297", "9223372036854775807", "9223372036854775808",
		"18446744073709551616", "18446744073709551617", nines,
	}
	for _, n := range great {
		for _, rest := range []string{"", "}", ",", ",}", ",1}", ",x", ",256", "x", "-", "{", "}}", "\x00"} {
			wantError(t, "{"+n+rest, 0, api.ELARGE)
			wantError(t, "{2,"+n+rest, 0, api.ELARGE)
		}
	}
}

// TestBracesWithoutForm asks for each place at which a repetition can end too
// early or go on with a byte that may not stand there.
func TestBracesWithoutForm(t *testing.T) {
	for _, p := range []string{"{", "{1", "{12", "{1,", "{12,", "{1,2", "{1,23", "{255,255"} {
		wantError(t, p, 0, api.EFORM)
	}
	for b := range 256 {
		other := string([]byte{byte(b)})
		digit := '0' <= b && b <= '9'
		if !digit {
			wantError(t, "{"+other, 0, api.EFORM)
			wantError(t, "{"+other+"}", 0, api.EFORM)
			wantError(t, "{"+other+"256}", 0, api.EFORM)
		}
		if !digit && b != '}' && b != ',' {
			wantError(t, "{1"+other, 0, api.EFORM)
			wantError(t, "{1"+other+"}", 0, api.EFORM)
			wantError(t, "{1"+other+"256}", 0, api.EFORM)
			wantError(t, "{12"+other+",3}", 0, api.EFORM)
		}
		if !digit && b != '}' {
			wantError(t, "{1,"+other, 0, api.EFORM)
			wantError(t, "{1,"+other+"}", 0, api.EFORM)
			wantError(t, "{1,"+other+"256}", 0, api.EFORM)
			wantError(t, "{1,2"+other, 0, api.EFORM)
			wantError(t, "{1,2"+other+"}", 0, api.EFORM)
			wantError(t, "{1,23"+other+"256}", 0, api.EFORM)
		}
	}
	for _, p := range []string{"{}", "{,}", "{,2}", "{,256}", "{1,,2}", "{1,2,}", "{1,2,3}", "{-1}", "{+1}", "{ 1}", "{1 }", "{0x1}", "{1_0}", "{1.}"} {
		wantError(t, p, 0, api.EFORM)
	}
}

func TestBracesLessThanLo(t *testing.T) {
	for _, p := range []string{"{1,0}", "{2,1}", "{10,9}", "{255,254}", "{255,0}", "{3,0002}", "{2,1", "{2,1x"} {
		wantError(t, p, 0, api.EFORM)
	}
	wantError(t, "{255,256}", 0, api.ELARGE)
	wantError(t, "{256,1}", 0, api.ELARGE)
}

func TestEscape(t *testing.T) {
	const marks = `.[]\()*+?{}|^$-`
	for b := range 256 {
		p := "\\" + string([]byte{byte(b)})
		switch {
		case '1' <= b && b <= '9':
			wantError(t, p, 0, api.EBACK)
			wantError(t, p+"a", 0, api.EBACK)
		case strings.Contains(marks, p[1:]):
			wantTokens(t, p, set(of(p[1:])))
			wantTokens(t, p+"a", set(of(p[1:])), token.Token{Kind: 1, Set: of("a"), At: 2})
		default:
			wantError(t, p, 0, api.EFORM)
			wantError(t, p+"a", 0, api.EFORM)
		}
	}
	wantError(t, "\\", 0, api.EFORM)
	wantError(t, "\\\\\\", 2, api.EFORM)
	wantError(t, "ab\\", 2, api.EFORM)
	wantTokens(t, "\\{2}", set(of("{")), token.Token{Kind: 1, Set: of("2"), At: 2}, token.Token{Kind: 1, Set: of("}"), At: 3})
}

func TestOtherBytes(t *testing.T) {
	others := 0
	for b := range 256 {
		p := string([]byte{byte(b)})
		if strings.Contains(`*+?{().|^$\[`, p) {
			continue
		}
		others++
		wantTokens(t, p, set(byteset.Of(byte(b))))
		wantTokens(t, p+p, set(byteset.Of(byte(b))), token.Token{Kind: 1, Set: byteset.Of(byte(b)), At: 1})
	}
	if others != 256-12 {
		t.Errorf("%d other bytes", others)
	}
	// The letter is of two bytes, and so of two tokens.
	wantTokens(t, "\u00e9", set(byteset.Of(0xc3)), token.Token{Kind: 1, Set: byteset.Of(0xa9), At: 1})
}

// TestResultsAreNew asks R4 and R5: what is done with an answer is not to be
// seen in another one.
func TestResultsAreNew(t *testing.T) {
	for _, p := range []string{"a", "a{2,}", "(?:[[:alpha:]-]|\\.)*$", "", "ab\\1"} {
		first, n, errno := token.Cut(p)
		want := slices.Clone(first)
		second, _, _ := token.Cut(p)
		second = second[:cap(second)]
		for i := range second {
			second[i] = token.Token{Kind: 42}
		}
		if !slices.Equal(first, want) {
			t.Errorf("Cut(%q): an answer shares memory with a later one", p)
		}
		if third, n3, errno3 := token.Cut(p); !slices.Equal(third, want) || n3 != n || errno3 != errno {
			t.Errorf("Cut(%q): an answer shares memory with an earlier one", p)
		}
	}
}

func ExampleCut() {
	tokens, n, errno := token.Cut("a{2,}")
	for _, t := range tokens {
		fmt.Println(t.Kind, t.Set.Runs(), t.Lo, t.Hi, t.At)
	}
	fmt.Println(n, errno == api.OK)
	// Output:
	// 1 [{97 97}] 0 0 0
	// 6 [] 2 -1 1
	// 5 true
}
