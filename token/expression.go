package token

import (
	"strings"

	"catchpole/api"
	"catchpole/byteset"
	"catchpole/class"
)

// expression is next for a bracket expression.
func expression(s string) (Token, int, api.Errno) {
	first := 1
	complement := has(s, first, '^')
	if complement {
		first++
	}
	var all byteset.Set
	at := first
	for at == first || !has(s, at, ']') {
		one, after, errno := item(s, at, at == first)
		if errno != api.OK {
			return Token{}, 0, errno
		}
		all = all.Or(one)
		at = after
	}
	if complement {
		all = all.Not()
	}
	if all.Len() == 0 {
		return Token{}, 0, api.EFORM
	}
	return Token{Kind: kindSet, Set: all}, at + 1, api.OK
}

// item returns the set of the item at offset at, and the offset behind it.
func item(s string, at int, first bool) (byteset.Set, int, api.Errno) {
	if strings.HasPrefix(s[at:], "[:") {
		// A `-` behind the class is neither the first item nor a range's, so that
		// it is refused as the next item if it is not the last.
		return named(s, at)
	}
	lo, errno := single(s, at)
	switch {
	case errno != api.OK:
		return byteset.Set{}, 0, errno
	case lo == '-' && !first && !has(s, at+1, ']'):
		return byteset.Set{}, 0, api.EFORM
	case !has(s, at+1, '-') || has(s, at+2, ']'):
		return byteset.Of(lo), at + 1, api.OK
	}
	hi, errno := single(s, at+2)
	switch {
	case errno != api.OK:
		return byteset.Set{}, 0, errno
	case lo > hi:
		return byteset.Set{}, 0, api.EFORM
	}
	return byteset.Range(lo, hi), at + 3, api.OK
}

// named is item for a class.
func named(s string, at int) (byteset.Set, int, api.Errno) {
	name, _, closed := strings.Cut(s[at+2:], ":]")
	c, ok := class.Named(name)
	if !closed || !ok {
		return byteset.Set{}, 0, api.EFORM
	}
	return c, at + len(name) + 4, api.OK
}

// single returns the byte at offset at, as an item or as an end of a range.
func single(s string, at int) (byte, api.Errno) {
	switch {
	case at >= len(s):
		return 0, api.EFORM
	case s[at] != '[':
		return s[at], api.OK
	case has(s, at+1, '.') || has(s, at+1, '='):
		return 0, api.EBACK
	case has(s, at+1, ':'):
		return 0, api.EFORM
	}
	return s[at], api.OK
}
