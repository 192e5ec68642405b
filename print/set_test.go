package print_test

import (
	"fmt"
	"math/rand"
	"strings"
	"testing"

	"catchpole/api"
	"catchpole/byteset"
	"catchpole/class"
	"catchpole/parse"
	"catchpole/print"
	"catchpole/token"
	"catchpole/tree"
)

func of(text string) byteset.Set { return byteset.Of([]byte(text)...) }

func span(lo, hi byte) byteset.Set { return byteset.Range(lo, hi) }

// named is the class of a name that there is.
func named(name string) byteset.Set {
	s, _ := class.Named(name)
	return s
}

// wantSet asks for the text of s, and that it is read as s if it has a byte.
func wantSet(t *testing.T, s byteset.Set, want string) {
	t.Helper()
	got := print.Set(s)
	if got != want {
		t.Errorf("Set of %v: %q, want %q", s.Runs(), got, want)
	}
	if s.Len() > 0 {
		wantSetRead(t, s, got)
	}
}

// wantSetRead asks that the text of s is one token, of s, and a pattern, of s.
func wantSetRead(t *testing.T, s byteset.Set, text string) {
	t.Helper()
	tokens, _, errno := token.Cut(text)
	if errno != api.OK || len(tokens) != 1 || tokens[0] != (token.Token{Kind: 1, Set: s}) {
		t.Errorf("Cut(%q): %v, %v, want the set of %v", text, tokens, errno, s.Runs())
	}
	p, _, errno := parse.Of(text)
	if errno != api.OK || p.Start || p.End || p.Groups != 0 || !tree.Same(p.Root, tree.Node{Kind: 1, Set: s}) {
		t.Errorf("Of(%q): %+v, %v, want the set of %v", text, p, errno, s.Runs())
	}
}

func TestNone(t *testing.T) {
	wantSet(t, byteset.Set{}, "")
	wantSet(t, byteset.Of(), "")
	wantSet(t, span('b', 'a'), "")
	wantSet(t, byteset.All().Not(), "")
}

func TestAll(t *testing.T) {
	wantSet(t, byteset.All(), ".")
	wantSet(t, span(0, 255), ".")
	wantSet(t, byteset.Set{}.Not(), ".")
	wantSet(t, span(0, 254), "[^\xff]")
	wantSet(t, span(1, 255), "[^\x00]")
}

// TestSingle asks for each of the 256 bytes: 14 of them are preceded by a \.
func TestSingle(t *testing.T) {
	preceded := map[byte]bool{
		'.': true, '[': true, ']': true, '\\': true, '(': true, ')': true, '*': true,
		'+': true, '?': true, '{': true, '}': true, '|': true, '^': true, '$': true,
	}
	if len(preceded) != 14 {
		t.Fatalf("%d bytes", len(preceded))
	}
	for i := range 256 {
		b := byte(i)
		want := string([]byte{b})
		if preceded[b] {
			want = string([]byte{'\\', b})
		}
		wantSet(t, byteset.Of(b), want)
	}
	wantSet(t, of("-"), "-")
	wantSet(t, of("/"), "/")
	wantSet(t, of("\n"), "\n")
	wantSet(t, of("\x00"), "\x00")
	wantSet(t, of("\xff"), "\xff")
	wantSet(t, of("\\"), `\\`)
	wantSet(t, of("$"), `\$`)
}

// TestNamed asks for each class, and for sets that are one but for one byte.
func TestNamed(t *testing.T) {
	for _, c := range []struct {
		s    byteset.Set
		want string
	}{
		{span('A', 'Z'), "[[:upper:]]"},
		{span('a', 'z'), "[[:lower:]]"},
		{span('A', 'Z').Or(span('a', 'z')), "[[:alpha:]]"},
		{span('0', '9'), "[[:digit:]]"},
		{span('0', '9').Or(span('A', 'Z')).Or(span('a', 'z')), "[[:alnum:]]"},
		{span('0', '9').Or(span('A', 'F')).Or(span('a', 'f')), "[[:xdigit:]]"},
		{of(" \t"), "[[:blank:]]"},
		{of(" \t\n\v\f\r"), "[[:space:]]"},
		{span(0, 31).Or(byteset.Of(127)), "[[:cntrl:]]"},
		{span('!', '/').Or(span(':', '@')).Or(span('[', '`')).Or(span('{', '~')), "[[:punct:]]"},
		{span('!', '~'), "[[:graph:]]"},
		{span(' ', '~'), "[[:print:]]"},
	} {
		wantSet(t, c.s, c.want)
	}
	for _, name := range class.Names() {
		s := named(name)
		wantSet(t, s, "[[:"+name+":]]")
		for _, b := range s.List() {
			wantModel(t, s.Minus(byteset.Of(b)))
		}
		for _, b := range s.Not().List() {
			wantModel(t, s.Or(byteset.Of(b)))
		}
		// The complement of a class is none.
		wantModel(t, s.Not())
	}
	wantSet(t, named("digit").Not(), "[^0-9]")
	wantSet(t, named("blank").Not(), "[^\t ]")
	wantSet(t, named("upper").Not(), "[^A-Z]")
	wantSet(t, named("digit").Or(of("-")), "[0-9-]")
	wantSet(t, named("lower").Or(of("_")), "[_a-z]")
	wantSet(t, span('0', '8'), "[0-8]")
	wantSet(t, named("punct").Minus(of("!")), "[]\"-,./:-@\\_`{-~[^-]")
}

// TestComplement asks for sets of just 128 elements, and of some more and fewer.
func TestComplement(t *testing.T) {
	for _, c := range []struct {
		s    byteset.Set
		want string
	}{
		{span(0, 126), "[]\x00-,.-\\_-~^-]"},
		{span(0, 127), "[]\x00-,.-\\_-\x7f^-]"},
		{span(0, 128), "[^\x81-\xff]"},
		{span(129, 255), "[\x81-\xff]"},
		{span(128, 255), "[\x80-\xff]"},
		{span(127, 255), "[^]\x00-,.-\\_-~^-]"},
		{span(64, 191), "[]@-\\_-\xbf^]"},
		{span(64, 192), "[^\x00-,.-?\xc1-\xff-]"},
		{span(100, 227), "[d-\xe3]"},
		{span(100, 228), "[^]\x00-,.-\\_-c\xe5-\xff^-]"},
		{span(101, 254), "[^]\x00-,.-\\_-d\xff^-]"},

		{of("a").Not(), "[^a]"},
		{of("ab").Not(), "[^ab]"},
		{of("abc").Not(), "[^a-c]"},
		{of(".").Not(), "[^.]"},
		{of("\\").Not(), "[^\\]"},
		{of("[").Not(), "[^[]"},
		{of("$").Not(), "[^$]"},
		{of("]").Not(), "[^]]"},
		{of("^").Not(), "[^^]"},
		{of("-").Not(), "[^-]"},
		{of("-^").Not(), "[^-^]"},
		{of("]^").Not(), "[^]^]"},
		{of("]-").Not(), "[^]-]"},
		{of("]^-").Not(), "[^]^-]"},
		{of("[]").Not(), "[^][]"},
		{of("]a").Not(), "[^]a]"},
		{of("]ab").Not(), "[^]ab]"},
		{of("]abc").Not(), "[^]a-c]"},
		{of("^a").Not(), "[^a^]"},
		{of("-a").Not(), "[^a-]"},
		{of("^-a").Not(), "[^a^-]"},
		{of("[-").Not(), "[^[-]"},
		{of("[^").Not(), "[^[^]"},
		{of("[^-").Not(), "[^[^-]"},
		{of("[]^-").Not(), "[^][^-]"},
		{of("[a").Not(), "[^a[]"},
		{of("0[\\a").Not(), "[^0\\a[]"},
		{of("YZ[").Not(), "[^Y-[]"},
	} {
		wantSet(t, c.s, c.want)
	}
}

// TestEachLength asks for sets of each number of elements: those of more than
// 128 begin with [^.
func TestEachLength(t *testing.T) {
	r := rand.New(rand.NewSource(7))
	for n := 2; n < 256; n++ {
		for range 4 {
			var s byteset.Set
			for _, b := range r.Perm(256)[:n] {
				s = s.Or(byteset.Of(byte(b)))
			}
			wantModel(t, s)
			if got := strings.HasPrefix(print.Set(s), "[^"); got != (n > 128) {
				t.Errorf("Set of %d bytes: %q", n, print.Set(s))
			}
		}
	}
}

// TestItems asks for the items of sets of few bytes.
func TestItems(t *testing.T) {
	for _, c := range []struct{ s, want string }{
		// Runs of one byte, of two, of three and more.
		{"ac", "[ac]"},
		{"ca", "[ac]"},
		{"ace", "[ace]"},
		{"ab", "[ab]"},
		{"abde", "[abde]"},
		{"abc", "[a-c]"},
		{"abcd", "[a-d]"},
		{"abcdef", "[a-f]"},
		{"abcefg", "[a-ce-g]"},
		{"abceghi", "[a-ceg-i]"},
		{"abdefh", "[abd-fh]"},
		{"\x00\x01", "[\x00\x01]"},
		{"\x00\x01\x02", "[\x00-\x02]"},
		{"\x00\xff", "[\x00\xff]"},
		{"\xfe\xff", "[\xfe\xff]"},
		{"\xfd\xfe\xff", "[\xfd-\xff]"},
		{"\x7f\x80", "[\x7f\x80]"},
		{"\x7f\x80\x81", "[\x7f-\x81]"},
		{"?@A", "[?-A]"},
		{"\\a", "[\\a]"},
		{".*", "[*.]"},
		{"()|", "[()|]"},
		{"$a", "[$a]"},
		{":=", "[:=]"},
		{":.=", "[.:=]"},

		// ] is the first one.
		{"]a", "[]a]"},
		{"]0", "[]0]"},
		{"]abc", "[]a-c]"},
		{"]0a", "[]0a]"},
		{"]012a", "[]0-2a]"},
		{"\\]", "[]\\]"},
		{"Z\\]", "[]Z\\]"},
		{"]_", "[]_]"},

		// - is the last one, and ^ precedes it.
		{"-a", "[a-]"},
		{"-!", "[!-]"},
		{"-abc", "[a-c-]"},
		{"-!a", "[!a-]"},
		{"^a", "[a^]"},
		{"^A", "[A^]"},
		{"^abc", "[a-c^]"},
		{"^Aa", "[Aa^]"},
		{"^-a", "[a^-]"},
		{"^-0a", "[0a^-]"},
		{"^-012abc", "[0-2a-c^-]"},
		{"]-", "[]-]"},
		{"]^", "[]^]"},
		{"]^-", "[]^-]"},
		{"]^-a", "[]a^-]"},
		// But not where there are just these two.
		{"-^", "[-^]"},
		{"^-", "[-^]"},

		// These part runs.
		{",-.", "[,.-]"},
		{"+,-./", "[+,./-]"},
		{"*+,-./0", "[*-,.-0-]"},
		{",-", "[,-]"},
		{"+,-", "[+,-]"},
		{"*+,-", "[*-,-]"},
		{"-.", "[.-]"},
		{"-./", "[./-]"},
		{"-./0", "[.-0-]"},
		{"^_", "[_^]"},
		{"^_`", "[_`^]"},
		{"^_`a", "[_-a^]"},
		{"\\]^_", "[]\\_^]"},
		{"]^_`a", "[]_-a^]"},
		{"]^_", "[]_^]"},

		// [ at the beginning of a run, as the first run and as a later one. As ]
		// parts it, the run has no more than two bytes.
		{"[a", "[a[]"},
		{"[ab", "[ab[]"},
		{"[abc", "[a-c[]"},
		{"0[", "[0[]"},
		{"012[", "[0-2[]"},
		{"0[a", "[0a[]"},
		{"Y[", "[Y[]"},
		{"[\\", "[\\[]"},
		{"[\\a", "[\\a[]"},
		{"0[\\", "[0\\[]"},
		{"0[\\a", "[0\\a[]"},
		{"[\\]", "[]\\[]"},
		{"[\\]^", "[]\\[^]"},
		{"[\\]^_", "[]\\_[^]"},
		{"[\\]^_`", "[]\\_`[^]"},
		{"[\\]^_`a", "[]\\_-a[^]"},
		{"Y[\\]^_`a", "[]Y\\_-a[^]"},
		{"[]", "[][]"},
		{"[]a", "[]a[]"},
		{"[]0a", "[]0a[]"},
		{"[^", "[[^]"},
		{"[-", "[[-]"},
		{"[^-", "[[^-]"},
		{"[]^-", "[][^-]"},
		{"[]^", "[][^]"},
		{"[]-", "[][-]"},
		{"[^a", "[a[^]"},
		{"[-a", "[a[-]"},
		{"[^-a", "[a[^-]"},
		{"[]^-a", "[]a[^-]"},
		{"[\\]^-", "[]\\[^-]"},
		{".[", "[.[]"},
		{":[", "[:[]"},
		{"=[", "[=[]"},

		// [ within a run and at its end.
		{"Z[", "[Z[]"},
		{"YZ[", "[Y-[]"},
		{"XYZ[", "[X-[]"},
		{"Z[\\", "[Z-\\]"},
		{"YZ[\\", "[Y-\\]"},
		{"Z[\\]", "[]Z-\\]"},
		{"Z[\\]^_", "[]Z-\\_^]"},
		{"Z[]", "[]Z[]"},
		{"YZ[]^", "[]Y-[^]"},
		{"Z[a", "[Z[a]"},
		{"YZ[a", "[Y-[a]"},
		{"YZ[abc", "[Y-[a-c]"},
		{"Z[-", "[Z[-]"},
		{"Z[^", "[Z[^]"},
		{"0Z[a", "[0Z[a]"},
	} {
		wantSet(t, of(c.s), c.want)
	}
}

// modelSet is the text of a set by the words of the chapter: it asks Has alone
// of package byteset.
func modelSet(s byteset.Set) string {
	var within, without []int
	for b := range 256 {
		if s.Has(byte(b)) {
			within = append(within, b)
		} else {
			without = append(without, b)
		}
	}
	switch {
	case len(within) == 0:
		return ""
	case len(without) == 0:
		return "."
	case len(within) == 1 && strings.ContainsRune(`.[]\()*+?{}|^$`, rune(within[0])):
		return "\\" + string([]byte{byte(within[0])})
	case len(within) == 1:
		return string([]byte{byte(within[0])})
	}
	for _, name := range class.Names() {
		if named(name) == s {
			return "[[:" + name + ":]]"
		}
	}
	if len(within) > 128 {
		return "[^" + modelItems(without) + "]"
	}
	return "[" + modelItems(within) + "]"
}

// modelItems are those of these bytes, which are in ascending order.
func modelItems(l []int) string {
	var ahead, behind, hat, hyphen string
	var runs [][]byte
	last := -2
	for _, b := range l {
		switch {
		case b == ']':
			ahead = "]"
		case b == '^':
			hat = "^"
		case b == '-':
			hyphen = "-"
		case b == last+1:
			runs[len(runs)-1] = append(runs[len(runs)-1], byte(b))
			last = b
		default:
			runs = append(runs, []byte{byte(b)})
			last = b
		}
	}
	text := ahead
	for _, r := range runs {
		if r[0] == '[' {
			behind = "["
			r = r[1:]
		}
		if len(r) > 2 {
			r = []byte{r[0], '-', r[len(r)-1]}
		}
		text += string(r)
	}
	if text+behind == "" && hat+hyphen == "^-" {
		return "-^"
	}
	return text + behind + hat + hyphen
}

// wantModel asks for what the model says of s.
func wantModel(t *testing.T, s byteset.Set) {
	t.Helper()
	wantSet(t, s, modelSet(s))
}

// TestPairs asks for all sets of two bytes and for all ranges, and for their
// complements.
func TestPairs(t *testing.T) {
	for a := range 256 {
		for b := range a {
			for _, s := range []byteset.Set{byteset.Of(byte(a), byte(b)), span(byte(b), byte(a))} {
				wantModel(t, s)
				wantModel(t, s.Not())
			}
		}
	}
}

// TestAllOfSpecial asks for all sets of the bytes that have a meaning in a
// bracket expression and of those beside them, and for their complements.
func TestAllOfSpecial(t *testing.T) {
	for _, bytes := range []string{",-.XYZ[\\]^_`a", "+,-./:=[]^", "[]^-:.=ab"} {
		for picked := range 1 << len(bytes) {
			var s byteset.Set
			for i := range len(bytes) {
				if picked>>i&1 == 1 {
					s = s.Or(byteset.Of(bytes[i]))
				}
			}
			wantModel(t, s)
			wantModel(t, s.Not())
		}
	}
}

// drawn is any set that has a byte and, as a rule, runs of several lengths.
func drawn(r *rand.Rand) byteset.Set {
	var s byteset.Set
	switch r.Intn(4) {
	case 0:
		return byteset.Of(byte(r.Intn(256)))
	case 1:
		for range 1 + r.Intn(6) {
			s = s.Or(byteset.Of("+,-./YZ[\\]^_`abc\x00\xff"[r.Intn(18)]))
		}
	case 2:
		for range 1 + r.Intn(8) {
			lo := r.Intn(256)
			s = s.Or(span(byte(lo), byte(min(lo+r.Intn(20), 255))))
		}
	default:
		keep := 1 + r.Intn(9)
		for b := range 256 {
			if r.Intn(10) < keep {
				s = s.Or(byteset.Of(byte(b)))
			}
		}
	}
	if not := s.Not(); s.Len() == 0 || r.Intn(4) == 0 && not.Len() > 0 {
		return not
	}
	return s
}

// TestDrawnSets asks for many sets of all kinds.
func TestDrawnSets(t *testing.T) {
	r := rand.New(rand.NewSource(1))
	for range 20000 {
		wantModel(t, drawn(r))
	}
}

func ExampleSet() {
	fmt.Println(print.Set(byteset.Range('a', 'c')))
	// Output:
	// [a-c]
}
