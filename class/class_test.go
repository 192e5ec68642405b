package class_test

import (
	"fmt"
	"slices"
	"strings"
	"testing"

	"catchpole/byteset"
	"catchpole/class"
)

// The functions with the signatures that the chapter lists: another one would
// not build.
var (
	_ func(string) (byteset.Set, bool) = class.Named
	_ func() []string                  = class.Names
	_ func(byte) []string              = class.In
	_ func(byteset.Set) (string, bool) = class.Whole
)

const (
	capitals = "ABCDEFGHIJKLMNOPQRSTUVWXYZ"
	smalls   = "abcdefghijklmnopqrstuvwxyz"
	digits   = "0123456789"
	marks    = "!\"#$%&'()*+,-./:;<=>?@[\\]^_`{|}~"
	controls = "\x00\x01\x02\x03\x04\x05\x06\x07\x08\x09\x0a\x0b\x0c\x0d\x0e\x0f" +
		"\x10\x11\x12\x13\x14\x15\x16\x17\x18\x19\x1a\x1b\x1c\x1d\x1e\x1f\x7f"
)

// model is a class byte by byte, to hold the answers against.
type model struct{ name, bytes string }

// models stand in ascending order of their names.
func models() []model {
	return []model{
		{"alnum", capitals + smalls + digits},
		{"alpha", capitals + smalls},
		{"blank", " \t"},
		{"cntrl", controls},
		{"digit", digits},
		{"graph", capitals + smalls + digits + marks},
		{"lower", smalls},
		{"print", capitals + smalls + digits + marks + " "},
		{"punct", marks},
		{"space", " \t\n\v\f\r"},
		{"upper", capitals},
		{"xdigit", digits + "ABCDEFabcdef"},
	}
}

// has asks for the byte, not for the letter of that number.
func (m model) has(b byte) bool { return strings.Contains(m.bytes, string([]byte{b})) }

func (m model) set() byteset.Set { return byteset.Of([]byte(m.bytes)...) }

func modelNames() []string {
	var l []string
	for _, m := range models() {
		l = append(l, m.name)
	}
	return l
}

// modelIn is what In is to answer, class by class.
func modelIn(b byte) []string {
	var l []string
	for _, m := range models() {
		if m.has(b) {
			l = append(l, m.name)
		}
	}
	return l
}

func TestNamed(t *testing.T) {
	for _, m := range models() {
		s, ok := class.Named(m.name)
		if !ok {
			t.Errorf("Named(%s): there is none", m.name)
		}
		for b := range 256 {
			if got, want := s.Has(byte(b)), m.has(byte(b)); got != want {
				t.Errorf("Named(%s) has %d: %v, want %v", m.name, b, got, want)
			}
		}
	}
}

// TestNamedByRuns holds the classes against the numbers of the chapter.
func TestNamedByRuns(t *testing.T) {
	for _, c := range []struct{ name, want string }{
		{"alnum", "[{48 57} {65 90} {97 122}]"},
		{"alpha", "[{65 90} {97 122}]"},
		{"blank", "[{9 9} {32 32}]"},
		{"cntrl", "[{0 31} {127 127}]"},
		{"digit", "[{48 57}]"},
		{"graph", "[{33 126}]"},
		{"lower", "[{97 122}]"},
		{"print", "[{32 126}]"},
		{"punct", "[{33 47} {58 64} {91 96} {123 126}]"},
		{"space", "[{9 13} {32 32}]"},
		{"upper", "[{65 90}]"},
		{"xdigit", "[{48 57} {65 70} {97 102}]"},
	} {
		s, ok := class.Named(c.name)
		if got := fmt.Sprint(s.Runs()); got != c.want || !ok {
			t.Errorf("Named(%s) = %s, %v, want %s", c.name, got, ok, c.want)
		}
	}
}

// wrongNames are near the names of classes, or are classes elsewhere.
func wrongNames() []string {
	l := []string{
		"", " ", "\x00", "ascii", "word", "any", "letter", "digits", "xdigi", "hex",
		"Alpha", "aLPHA", "[:alpha:]", ":alpha:", "alpha:", "al pha", "alpha,digit",
		"alpha|digit", "\xff", "\xc3\xa4", "alph\xc3\xa4", strings.Repeat("alpha", 1000),
	}
	for _, name := range modelNames() {
		l = append(l, strings.ToUpper(name), strings.ToUpper(name[:1])+name[1:],
			" "+name, name+" ", name+"\n", name+"\x00", name+name, name[1:], name[:len(name)-1], "^"+name)
	}
	// xdigit without its first letter is a name.
	return slices.DeleteFunc(l, func(name string) bool { return name == "digit" })
}

func TestNamedNone(t *testing.T) {
	for _, name := range wrongNames() {
		if s, ok := class.Named(name); ok || s != (byteset.Set{}) {
			t.Errorf("Named(%q) = %v, %v, want none", name, s.List(), ok)
		}
	}
}

func TestNames(t *testing.T) {
	got := class.Names()
	if !slices.Equal(got, modelNames()) {
		t.Errorf("Names() = %q, want %q", got, modelNames())
	}
	if len(got) != 12 {
		t.Errorf("Names() has %d names, want 12", len(got))
	}
	for i := 1; i < len(got); i++ {
		if got[i-1] >= got[i] {
			t.Errorf("Names() has %q ahead of %q", got[i-1], got[i])
		}
	}
	for _, name := range got {
		if _, ok := class.Named(name); !ok {
			t.Errorf("Named(%s): there is none, but Names has it", name)
		}
	}
}

func TestIn(t *testing.T) {
	for _, c := range []struct {
		b    byte
		want string
	}{
		{0, "cntrl"},
		{8, "cntrl"},
		{'\t', "blank cntrl space"},
		{'\n', "cntrl space"},
		{'\r', "cntrl space"},
		{14, "cntrl"},
		{31, "cntrl"},
		{' ', "blank print space"},
		{'!', "graph print punct"},
		{'/', "graph print punct"},
		{'0', "alnum digit graph print xdigit"},
		{'9', "alnum digit graph print xdigit"},
		{':', "graph print punct"},
		{'@', "graph print punct"},
		{'A', "alnum alpha graph print upper xdigit"},
		{'F', "alnum alpha graph print upper xdigit"},
		{'G', "alnum alpha graph print upper"},
		{'Z', "alnum alpha graph print upper"},
		{'[', "graph print punct"},
		{'`', "graph print punct"},
		{'a', "alnum alpha graph lower print xdigit"},
		{'f', "alnum alpha graph lower print xdigit"},
		{'g', "alnum alpha graph lower print"},
		{'z', "alnum alpha graph lower print"},
		{'{', "graph print punct"},
		{'~', "graph print punct"},
		{127, "cntrl"},
		{128, ""},
		{0xa0, ""},
		{0xdf, ""},
		{255, ""},
	} {
		if got := strings.Join(class.In(c.b), " "); got != c.want {
			t.Errorf("In(%d) = %q, want %q", c.b, got, c.want)
		}
	}
	for b := range 256 {
		if got, want := class.In(byte(b)), modelIn(byte(b)); !slices.Equal(got, want) {
			t.Errorf("In(%d) = %q, want %q", b, got, want)
		}
	}
	for b := 128; b < 256; b++ {
		if got := class.In(byte(b)); len(got) != 0 {
			t.Errorf("In(%d) = %q, want none", b, got)
		}
	}
}

func TestWhole(t *testing.T) {
	for _, m := range models() {
		if got, ok := class.Whole(m.set()); got != m.name || !ok {
			t.Errorf("Whole of %s = %q, %v", m.name, got, ok)
		}
		s, _ := class.Named(m.name)
		if got, ok := class.Whole(s); got != m.name || !ok {
			t.Errorf("Whole(Named(%s)) = %q, %v", m.name, got, ok)
		}
	}
}

func TestWholeNone(t *testing.T) {
	sets := []byteset.Set{
		{},
		byteset.All(),
		byteset.Of('a'),
		byteset.Of(' '),
		byteset.Of(255),
		byteset.Range(0, 31),
		byteset.Range(0, 127),
		byteset.Range(128, 255),
		byteset.Range('A', 'z'),
		byteset.Range('a', 'f'),
		byteset.Range('0', '9').Or(byteset.Range('a', 'f')),
	}
	for _, m := range models() {
		sets = append(sets, m.set().Not())
		// Each differs from a class in one byte at most; those that are classes
		// themselves are left out.
		for b := range 256 {
			one := byteset.Of(byte(b))
			for _, s := range []byteset.Set{m.set().Or(one), m.set().Minus(one)} {
				if !slices.ContainsFunc(models(), func(o model) bool { return o.set() == s }) {
					sets = append(sets, s)
				}
			}
		}
	}
	for _, s := range sets {
		if got, ok := class.Whole(s); got != "" || ok {
			t.Errorf("Whole(%v) = %q, %v, want none", s.List(), got, ok)
		}
	}
}

// TestWholeOfNeighbours has the two classes that differ in one byte.
func TestWholeOfNeighbours(t *testing.T) {
	for _, c := range []struct {
		s    byteset.Set
		want string
	}{
		{byteset.Range(33, 126), "graph"},
		{byteset.Range(32, 126), "print"},
	} {
		if got, ok := class.Whole(c.s); got != c.want || !ok {
			t.Errorf("Whole(%v) = %q, %v, want %s", c.s.Runs(), got, ok, c.want)
		}
	}
}

// fill writes over a list and its spare capacity.
func fill(l []string) {
	l = l[:cap(l)]
	for i := range l {
		l[i] = "filled"
	}
}

// TestResultsAreNew asks R4 and R5: what is done with one list is not to be
// seen in a list told before or after, nor in what the other functions answer.
func TestResultsAreNew(t *testing.T) {
	names := class.Names()
	fill(class.Names())
	if !slices.Equal(names, modelNames()) {
		t.Errorf("Names: a list shares memory with a later one: %q", names)
	}
	fill(names)
	if got := class.Names(); !slices.Equal(got, modelNames()) {
		t.Errorf("Names: a list shares memory with an earlier one: %q", got)
	}
	for b := range 256 {
		in := class.In(byte(b))
		fill(class.In(byte(b)))
		if !slices.Equal(in, modelIn(byte(b))) {
			t.Errorf("In(%d): a list shares memory with a later one: %q", b, in)
		}
		fill(in)
		if got := class.In(byte(b)); !slices.Equal(got, modelIn(byte(b))) {
			t.Errorf("In(%d): a list shares memory with an earlier one: %q", b, got)
		}
	}
	for _, m := range models() {
		if s, ok := class.Named(m.name); s != m.set() || !ok {
			t.Errorf("Named(%s) after the lists were written over: %v, %v", m.name, s.List(), ok)
		}
		if got, ok := class.Whole(m.set()); got != m.name || !ok {
			t.Errorf("Whole of %s after the lists were written over: %q, %v", m.name, got, ok)
		}
	}
}

func ExampleNamed() {
	s, ok := class.Named("digit")
	fmt.Println(s.Len(), string(s.List()), ok)
	// Output: 10 0123456789 true
}
