package deriv

import (
	"catchpole/byteset"
	"catchpole/core"
)

// The kinds of cores.
const (
	kindNothing     = 0
	kindEmpty       = 1
	kindSet         = 2
	kindConcat      = 3
	kindAlternative = 4
	kindStar        = 5
	kindGroup       = 6
	kindRenewal     = 7
)

// The functions below return cores of each kind after Tidy, when their elements
// are tidy.

func nothing() core.Core { return core.Core{Kind: kindNothing} }

func empty() core.Core { return core.Core{Kind: kindEmpty} }

func set(s byteset.Set) core.Core {
	if s.Len() == 0 {
		return nothing()
	}
	return core.Core{Kind: kindSet, Set: s}
}

func concat(p, q core.Core) core.Core {
	switch {
	case p.Kind == kindNothing || q.Kind == kindNothing:
		return nothing()
	case p.Kind == kindEmpty:
		return q
	case q.Kind == kindEmpty:
		return p
	}
	return core.Core{Kind: kindConcat, L: []core.Core{p, q}}
}

func alternative(p, q core.Core) core.Core {
	switch {
	case p.Kind == kindNothing:
		return q
	case q.Kind == kindNothing || core.Same(p, q):
		return p
	}
	return core.Core{Kind: kindAlternative, L: []core.Core{p, q}}
}

func star(p core.Core) core.Core {
	switch p.Kind {
	case kindNothing, kindEmpty:
		return empty()
	case kindStar:
		return p
	}
	return core.Core{Kind: kindStar, L: []core.Core{p}}
}
