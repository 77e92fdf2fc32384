package refs

import (
	"strings"

	"warp/api"
)

// What a name may be seen as: one name may be seen as each of them.
const (
	asBound = iota + 1 // around where one stands: so often, as it may be bound once more within what binds it
	asFree             // ahead: once, if it is listed
	asBind             // at the top: at that place
)

// sight is what a name was seen as.
type sight struct {
	as   int
	name string
}

// seen tells of each sight its number.
type seen map[sight]int

// finder lists the names that are free in what it goes through.
type finder struct {
	seen seen
	free []string
}

// expr goes through e, a name ahead of what is in it.
func (f *finder) expr(e api.Expr) {
	if e.Kind == api.EVar {
		f.use(e.Name)
	}
	for i, kid := range e.Kids {
		f.within(boundIn(e, i), kid)
	}
	for _, a := range e.Alts {
		f.within(a.Names, a.Body)
	}
}

// within goes through e where those names are bound around it.
func (f *finder) within(names []string, e api.Expr) {
	for _, name := range names {
		f.seen[sight{asBound, name}]++
	}
	f.expr(e)
	for _, name := range names {
		f.seen[sight{asBound, name}]--
	}
}

// use lists a name, unless it is bound or listed.
func (f *finder) use(name string) {
	if f.seen[sight{asBound, name}] > 0 || f.seen[sight{asFree, name}] > 0 {
		return
	}
	f.seen[sight{asFree, name}]++
	f.free = append(f.free, strings.Clone(name))
}

// boundIn tells the names that e binds in its Kid i.
func boundIn(e api.Expr, i int) []string {
	if e.Kind == api.ELam && i == 0 || e.Kind == api.ELet && i == 1 {
		return []string{e.Name}
	}
	return nil
}
