package value

import "strings"

// hexDigits are the digits of a byte in a text.
const hexDigits = "0123456789abcdef"

// Text returns the text of v.
func Text(v Value) string {
	var w strings.Builder
	write(&w, v)
	return w.String()
}

// write writes the text of v.
func write(w *strings.Builder, v Value) {
	l := counted(v)
	switch v.Kind {
	case kindEmpty:
		w.WriteByte('E')
	case kindByte:
		w.WriteByte(hexDigits[v.B/16])
		w.WriteByte(hexDigits[v.B%16])
	case kindConcat:
		after := ")"
		// The comma of a pair stands there even if an element does not.
		if len(l) < 2 {
			after = ",)"
		}
		writeList(w, "(", l, after)
	case kindLeft:
		writeList(w, "L", l, "")
	case kindRight:
		writeList(w, "R", l, "")
	case kindStar:
		writeList(w, "[", l, "]")
	case kindGroup:
		writeList(w, "<", l, ">")
	default:
		w.WriteByte('?')
	}
}

// writeList writes the texts of l with commas between them, and the marks before
// and after them.
func writeList(w *strings.Builder, before string, l []Value, after string) {
	w.WriteString(before)
	for i, v := range l {
		if i > 0 {
			w.WriteByte(',')
		}
		write(w, v)
	}
	w.WriteString(after)
}
