package refs

import (
	"fmt"
	"math"
	"slices"
	"strings"
	"testing"

	"warp/api"
	"warp/plays"
)

// R1: the same call tells the same; every call ends, and none panics.

func TestTheSameAgain(t *testing.T) {
	next := plays.Below(145)
	for i := range 500 {
		p := changed(next, i%4)
		g := Graph(p.Binds)
		var all [][]string
		for _, b := range p.Binds {
			all = append(all, Free(b.Body))
		}
		for range 3 {
			Graph(changed(next, 1).Binds)
			checkGraph(t, p.Binds, g)
			for j, b := range p.Binds {
				Free(lam("x", p.Binds[(i+j)%len(p.Binds)].Body))
				checkNames(t, b.Body, all[j])
			}
		}
	}
}

// Of what no sentence says anything a call ends, too: kinds that there are not, too few and too many Kids and Alts.
func TestWrongInputsEnd(t *testing.T) {
	for _, kind := range []int{math.MinInt, -1, 0, 1, 2, 3, 4, 5, 6, 7, 8, 9, 10, 11, 77, 1<<32 + api.EVar, math.MaxInt} {
		for _, name := range []string{"", "f", "x", "q", "\xff", strings.Repeat("x", 1000)} {
			for kids := range 10 {
				for alts := range 4 {
					e := api.Expr{Kind: kind, Name: name, N: kids - 4, Alts: make([]api.Alt, alts)}
					for i := range kids {
						e.Kids = append(e.Kids, node((kind+i)%12, name, ref("y")))
					}
					for i := range alts {
						e.Alts[i] = alt(node(kind, name, ref("x")), []string{"x", name, name}[:i]...)
					}
					checkEnds(t, api.Program{Binds: []api.Bind{{Name: "f", Body: e}, {Name: name, Body: lam("q", e)},
						{Name: "x", Body: choose(e, alt(e, name))}}})
				}
			}
		}
	}
	checkEnds(t, api.Program{Binds: make([]api.Bind, 3)})
	checkEnds(t, of(choose(api.Expr{}, make([]api.Alt, 3)...)))
}

// What has a kind that there is not is no name and binds nothing, but what is in it may be free.
func TestKindsThatThereAreNot(t *testing.T) {
	for _, kind := range []int{0, -1, -2, 11, 12, 77, 256 + api.EVar, 1<<32 + api.EVar, 1<<32 + api.ELam, math.MinInt,
		math.MaxInt} {
		for _, name := range []string{"", "x", "y"} {
			checkFree(t, node(kind, name))
			checkFree(t, app(node(kind, name), ref("z")), "z")
			for n := 1; n < 10; n++ {
				kids := make([]api.Expr, n)
				checkFree(t, node(kind, name, kids...))
				for i := range n {
					kids[i] = app(ref(name), lam("x", ref("x")))
					checkFree(t, node(kind, name, kids...), name)
					kids[i] = app(ref("z"), node(kind, "u", ref("u")))
					checkFree(t, node(kind, name, kids...), "z", "u")
					kids[i] = api.Expr{}
				}
			}
			checkGraph(t, []api.Bind{{Name: name, Body: node(kind, name)}, {Name: "z", Body: node(kind, "z", ref(name))}},
				[][]int{nil, {0}})
		}
	}
}

// What is free is so however many Kids there are.
func TestTooFewAndTooManyKids(t *testing.T) {
	names := strings.Fields("a b c d e f g h i j k l")
	for kind := api.ECon; kind <= api.ECase; kind++ {
		for n := range names {
			if (kind == api.ELam || kind == api.ECase) && n > 1 {
				continue
			}
			checkFree(t, node(kind, "x", refs(names[:n]...)...), names[:n]...)
		}
	}
	for n := range names {
		checkFree(t, node(api.EVar, "x", refs(names[:n]...)...), append([]string{"x"}, names[:n]...)...)
		// An EVar stands ahead of what is in it.
		checkFree(t, node(api.EVar, "c", refs(names[:n]...)...),
			append([]string{"c"}, slices.DeleteFunc(slices.Clone(names[:n]), func(s string) bool { return s == "c" })...)...)
		// An ELet binds its Name in its second Kid alone.
		for i := range n {
			want := slices.Clone(names[:n])
			if i == 1 {
				want = slices.Delete(want, 1, 2)
			}
			checkFree(t, node(api.ELet, names[i], refs(names[:n]...)...), want...)
		}
	}
	// A case without a Kid, without alts, with many.
	checkFree(t, api.Expr{Kind: api.ECase})
	checkFree(t, choose(ref("x")), "x")
	checkFree(t, api.Expr{Kind: api.ECase, Name: "x", Alts: []api.Alt{alt(ref("x")), alt(ref("y"), "y")}}, "x")
	var alts []api.Alt
	for _, name := range names {
		alts = append(alts, alt(app(ref(name), ref("x")), "x", "y"))
	}
	checkFree(t, choose(ref("y"), alts...), append([]string{"y"}, names...)...)
}

// around tells expressions that have e in them and bind that name around it.
func around(name string, e api.Expr) []api.Expr {
	return []api.Expr{lam(name, e), let(name, number(), e), choose(number(), alt(number()), alt(e, "y", name))}
}

// nested tells an expression that has e in it so deep: wraps tells ways to put one expression into another, which are
// taken in turn, by names v0, v1, ..
func nested(deep int, e api.Expr, wraps func(name string, e api.Expr) []api.Expr) api.Expr {
	for i := range deep {
		l := wraps(fmt.Sprint("v", i), e)
		e = l[i%len(l)]
	}
	return e
}

func checkDeep(t *testing.T, deep int, bound, unbound func(name string, e api.Expr) []api.Expr) {
	t.Helper()
	last := fmt.Sprint("v", deep-1)
	e := node(api.ETuple, "", refs("x", last, "v0", "z", "x")...)
	checkNames(t, nested(deep, e, bound), []string{"x", "z"})
	checkNames(t, app(nested(deep, e, bound), ref("v0")), []string{"x", "z", "v0"})
	checkNames(t, nested(deep, e, unbound), slices.Compact([]string{"x", last, "v0", "z"}))
	e = nested(deep, node(api.ETuple, "", refs("g", last, "f")...), bound)
	checkGraph(t, []api.Bind{{Name: "f", Body: e}, {Name: last, Body: ref(last)}, {Name: "g", Body: app(e, ref(last))}},
		[][]int{{0, 2}, {1}, {0, 1, 2}})
}

// only tells one of those ways alone.
func only(way int, wraps func(string, api.Expr) []api.Expr) func(string, api.Expr) []api.Expr {
	return func(name string, e api.Expr) []api.Expr {
		l := wraps(name, e)
		return l[way%len(l):][:1]
	}
}

func TestDeepExprs(t *testing.T) {
	for _, deep := range []int{1, 2, 3, 59, 60, 61, 1000} {
		for way := range len(beside("", number())) {
			checkDeep(t, deep, only(way, around), only(way, beside))
		}
	}
	checkDeep(t, 48000, around, beside)
}

// One name that is bound so often around is bound till the last of these ends.
func TestOneNameBoundOften(t *testing.T) {
	for _, deep := range []int{1, 2, 3, 255, 256, 257, 1000, 21000} {
		for way := range around("", number()) {
			e := ref("x")
			for range deep {
				e = app(around("x", e)[way], ref("x"))
			}
			checkNames(t, e, []string{"x"})
			checkNames(t, around("x", e)[way], nil)
		}
	}
}

// TestMany hands in so many of each thing that holding each against each other one would not end soon.
func TestMany(t *testing.T) {
	const n = 1 << 16
	names, kids, alts, l := make([]string, n), make([]api.Expr, n), make([]api.Alt, n), make([]api.Bind, n)
	want := make([][]int, n)
	for i := range n {
		names[i], kids[n-1-i] = fmt.Sprint("f", i), ref(fmt.Sprint("f", i))
		alts[i] = alt(ref(fmt.Sprint("f", (i+1)%n)), fmt.Sprint("f", i))
		l[i] = api.Bind{Name: names[i], Body: app(ref(fmt.Sprint("f", n-1-i)), ref("f7"))}
		want[i] = slices.Compact(slices.Sorted(slices.Values([]int{7, n - 1 - i})))
	}
	all := node(api.ETuple, "", kids...)
	back := slices.Clone(names)
	slices.Reverse(back)
	checkNames(t, all, back)
	checkNames(t, app(all, all), back)
	checkNames(t, choose(number(), alt(all, names...)), nil)
	checkNames(t, choose(number(), alt(all, names[1:]...)), names[:1])
	checkNames(t, choose(number(), alts...), append(slices.Clone(names[1:]), names[0]))
	checkGraph(t, l, want)
	l[5].Body, want[5] = all, nil
	for i := range n {
		want[5] = append(want[5], i)
	}
	checkGraph(t, l, want)
	for i := range n {
		l[i] = api.Bind{Name: "f", Body: ref("f")}
		want[i] = []int{0}
	}
	checkGraph(t, l, want)
}

func TestManyThatAreNothing(t *testing.T) {
	const n = 1 << 18
	checkNames(t, node(0, "", make([]api.Expr, n)...), nil)
	checkNames(t, choose(number(), make([]api.Alt, n)...), nil)
	checkNames(t, choose(number(), alt(ref(""), make([]string, n)...)), nil)
	checkGraph(t, make([]api.Bind, n), make([][]int, n))
	checkNames(t, node(api.ETuple, "", slices.Repeat(refs("x", ""), n)...), []string{"x", ""})
}
