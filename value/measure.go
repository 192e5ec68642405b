package value

// counted returns the elements of L that count for the kind of v, which may be
// fewer than the kind has.
func counted(v Value) []Value {
	switch v.Kind {
	case kindConcat:
		return v.L[:min(2, len(v.L))]
	case kindLeft, kindRight, kindGroup:
		return v.L[:min(1, len(v.L))]
	case kindStar:
		return v.L
	}
	return nil
}

// Flat returns the bytes of v from left to right.
func Flat(v Value) []byte { return appendFlat(nil, v) }

// appendFlat returns l with the bytes of v behind it.
func appendFlat(l []byte, v Value) []byte {
	if v.Kind == kindByte {
		return append(l, v.B)
	}
	for _, x := range counted(v) {
		l = appendFlat(l, x)
	}
	return l
}

// Len returns the number of the bytes of v.
func Len(v Value) int {
	length, _ := measure(v)
	return length
}

// measure returns the Len of v, and whether each iteration of each star in it
// has a byte. Both come of one walk, as asking for the Len of each iteration
// anew would take stars within stars very long.
func measure(v Value) (length int, full bool) {
	if v.Kind == kindByte {
		return 1, true
	}
	full = true
	for _, x := range counted(v) {
		n, ok := measure(x)
		length += n
		full = full && ok && (n > 0 || v.Kind != kindStar)
	}
	return length, full
}

// Size returns the number of values of which v consists.
func Size(v Value) int {
	size := 1
	for _, x := range counted(v) {
		size += Size(x)
	}
	return size
}
