package refs

import (
	"slices"
	"strings"
	"testing"
	"unsafe"

	"warp/api"
	"warp/lists"
	"warp/plays"
	"warp/progs"
)

// R3: what is told is new memory; what is handed in is neither changed nor kept.

// answers tells what Free and Graph tell of p: of each Bind's Body, and of all.
func answers(p api.Program) (free [][]string, g [][]int) {
	for _, b := range p.Binds {
		free = append(free, Free(b.Body))
	}
	return free, Graph(p.Binds)
}

// texts tells all lists of texts in p.
func texts(p api.Program) [][]string {
	var l [][]string
	for _, a := range progs.Of(p).Alts {
		l = append(l, a.Names)
	}
	return l
}

func copied[T any](l [][]T) [][]T {
	made := make([][]T, len(l))
	for i, inner := range l {
		made[i] = slices.Clone(inner)
	}
	return made
}

func same[T comparable](l, other [][]T) bool { return slices.EqualFunc(l, other, slices.Equal[[]T]) }

func TestNoTwoListsShareMemory(t *testing.T) {
	next := plays.Below(146)
	for i := range 500 {
		p := changed(next, i%4)
		free, g := answers(p)
		again, other := answers(p)
		if lists.Shared(slices.Concat(texts(p), free, again)) || lists.Shared(slices.Concat(g, other)) ||
			lists.Shared([][][]int{g, other}) {
			t.Fatalf("%s: two lists share memory", told(p))
		}
	}
}

func TestWritingChangesNothing(t *testing.T) {
	next := plays.Below(147)
	for i := range 500 {
		p := changed(next, i%4)
		was := progs.Told(p)
		free, g := answers(p)
		again, other := answers(p)
		wantFree, wantG := copied(again), copied(other)
		for _, l := range free {
			lists.Scribble(l, "spoilt")
		}
		for _, l := range g {
			lists.Scribble(l, -7)
		}
		lists.Scribble(g, []int{-7})
		if progs.Told(p) != was || !same(again, wantFree) || !same(other, wantG) {
			t.Fatalf("%s: writing into what is told changed something", was)
		}
		checkAnswers(t, p, wantFree, wantG)
		progs.Scribble(p)
		if !same(again, wantFree) || !same(other, wantG) {
			t.Fatalf("%s: writing into what was handed in changed what is told", was)
		}
	}
}

// checkAnswers checks that Free and Graph tell that of p.
func checkAnswers(t *testing.T, p api.Program, wantFree [][]string, wantG [][]int) {
	t.Helper()
	if free, g := answers(p); !same(free, wantFree) || !same(g, wantG) {
		t.Errorf("%s: %q, %v, want %q, %v", told(p), free, g, wantFree, wantG)
	}
}

// Whoever appends to one list within what Graph tells changes no other one.
func TestAppendingChangesNothing(t *testing.T) {
	l := binds(t, "let f = g h; let g = f; let h = 1; let i = i h f g; let f = f;")
	want := plainGraph(l)
	for i := range want {
		g := Graph(l)
		for range 20 {
			g[i] = append(g[i], -7)
		}
		g[i] = g[i][:len(want[i])]
		if !same(g, want) {
			t.Errorf("appending to list %d: %v, want %v", i, g, want)
		}
	}
}

// What was handed in is not kept: whoever writes into it changes no answer that is still to come.
func TestNothingIsKept(t *testing.T) {
	next := plays.Below(148)
	for range 300 {
		p, q := changed(next, 1), changed(next, 1)
		free, g := answers(q)
		answers(p)
		progs.Scribble(p)
		answers(p)
		checkAnswers(t, q, free, g)
		checkNames(t, app(ref("x"), ref("y")), []string{"x", "y"})
		checkGraph(t, []api.Bind{{Name: "y", Body: ref("x")}, {Name: "z", Body: ref("y")}}, [][]int{nil, {0}})
	}
}

// TestListsThatShareMemory hands in lists of one memory, with spare room behind that has other names.
func TestListsThatShareMemory(t *testing.T) {
	names := lists.Roomy([]string{"x", "y", "z"}, "u")
	kids := lists.Roomy(refs("x", "y", "z", "u", "v"), ref("no"))
	body := func(n int) api.Expr { return node(api.ETuple, "", kids[:n]...) }
	alts := lists.Roomy([]api.Alt{alt(body(3), names...), alt(body(3), names[:1]...), alt(body(4), names[1:]...)},
		alt(ref("no")))
	e := choose(number(), alts...)
	checkFree(t, e, "y", "z", "x", "u")
	l := lists.Roomy([]api.Bind{{Name: "x", Body: e}, {Name: "u", Body: choose(number(), alts[:2]...)},
		{Name: "y", Body: node(api.ETuple, "", kids[3:]...)}, {Name: "x", Body: e}}, api.Bind{Name: "z"})
	checkGraph(t, l, [][]int{{0, 1, 2}, {2}, {1}, {0, 1, 2}})
	if names[:4][3] != "u" || kids[:6][5].Name != "no" || alts[:4][3].Body.Name != "no" || l[:5][4].Name != "z" {
		t.Error("spare room is another")
	}
}

func TestNamesAreNoPieces(t *testing.T) {
	src := strings.Clone("bee, dee, x")
	e := node(api.ETuple, "", refs(src[:3], src[5:8], src[10:], src[:3])...)
	low := uintptr(unsafe.Pointer(unsafe.StringData(src)))
	checkFree(t, e, "bee", "dee", "x")
	for _, s := range Free(e) {
		if at := uintptr(unsafe.Pointer(unsafe.StringData(s))); at >= low && at < low+uintptr(len(src)) {
			t.Errorf("%q is a piece of what was handed in", s)
		}
	}
}
