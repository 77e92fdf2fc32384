package term

import (
	"strings"

	"warp/api"
)

// finder lists variables, each once.
type finder struct {
	seen map[int]struct{}
	vars []int
}

// find lists the variables of t that are not listed.
func (f *finder) find(t api.Type) {
	if t.Kind == api.YVar {
		f.add(t.N)
	}
	for _, kid := range t.Kids {
		f.find(kid)
	}
}

func (f *finder) add(n int) {
	if _, known := f.seen[n]; !known {
		f.seen[n] = struct{}{}
		f.vars = append(f.vars, n)
	}
}

// variable tells the type that variable n is.
func variable(n int) api.Type { return api.Type{Kind: api.YVar, N: n} }

// replaced tells t, which may be, in new memory, with what by tells for each variable.
func replaced(t api.Type, by func(n int) api.Type) api.Type {
	if t.Kind == api.YVar {
		return by(t.N)
	}
	return remade(t, func(kid api.Type) api.Type { return replaced(kid, by) })
}

// copied tells t, whatever it is, in new memory.
func copied(t api.Type) api.Type { return remade(t, copied) }

// remade tells t in new memory, with what one tells for each Kid.
func remade(t api.Type, one func(kid api.Type) api.Type) api.Type {
	t.Name = strings.Clone(t.Name)
	old := t.Kids
	// Without Kids there is no list: that of t may have spare room.
	t.Kids = nil
	if len(old) > 0 {
		t.Kids = make([]api.Type, len(old))
	}
	for i, kid := range old {
		t.Kids[i] = one(kid)
	}
	return t
}
