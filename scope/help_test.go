package scope

import (
	"fmt"
	"math"
	"slices"
	"strings"
	"testing"

	"warp/api"
	"warp/parse"
	"warp/progs"
)

// told tells all that is in p, cut where it is long.
func told(p api.Program) string {
	s := progs.Told(p)
	return fmt.Sprintf("%s of %d bytes", s[:min(len(s), 600)], len(s))
}

// Expressions and Alts, without places.

// node tells an expression of that kind.
func node(kind int, name string, kids ...api.Expr) api.Expr {
	return api.Expr{Kind: kind, Name: name, Kids: kids}
}

func ref(name string) api.Expr                       { return node(api.EVar, name) }
func use(name string) api.Expr                       { return node(api.ECon, name) }
func number() api.Expr                               { return node(api.EInt, "") }
func app(f, arg api.Expr) api.Expr                   { return node(api.EApp, "", f, arg) }
func lam(name string, body api.Expr) api.Expr        { return node(api.ELam, name, body) }
func let(name string, first, body api.Expr) api.Expr { return node(api.ELet, name, first, body) }

// choose tells a case of e with those Alts.
func choose(e api.Expr, l ...api.Alt) api.Expr {
	return api.Expr{Kind: api.ECase, Kids: []api.Expr{e}, Alts: l}
}

func alt(con, names string, body api.Expr) api.Alt {
	return api.Alt{Con: con, Names: strings.Fields(names), Body: body}
}

// The part that is the first wrong one is marked by its place: no other part has that one.
const mark = 777

func marked(e api.Expr) api.Expr {
	e.At = mark
	return e
}

func markedAlt(a api.Alt) api.Alt {
	a.At = mark
	return a
}

// unmarked puts all places in e to 0.
func unmarked(e api.Expr) api.Expr {
	p := api.Program{Binds: []api.Bind{{Body: e}}}
	for _, at := range progs.Places(p) {
		*at = 0
	}
	return p.Binds[0].Body
}

// parsed tells what a text says, with its places.
func parsed(t *testing.T, src string) api.Program {
	t.Helper()
	p, e, at := parse.Parse(src)
	if e != api.OK {
		t.Fatalf("the test itself is wrong: %q: error %d at %d", src, e, at)
	}
	return p
}

// some tells Datas that are right, each time new ones: L has Cons N and C, with two Args, T has T0 to T3.
func some(t *testing.T) []api.Data {
	t.Helper()
	return parsed(t, "data L a = N | C a (L a); data T a = T0 | T1 a | T2 a T0 | T3 a (T a) T0; data T0 = T;").Datas
}

// three tells a program of three Binds with those Bodies, beside some Datas.
func three(t *testing.T, f, g, h api.Expr) api.Program {
	t.Helper()
	return api.Program{Datas: some(t), Binds: []api.Bind{{Name: "f", Body: f}, {Name: "g", Body: g},
		{Name: "h", Body: h}}}
}

// putAts puts another number at each place.
func putAts(places []*int, first, step int) {
	for i, at := range places {
		*at = first + step*i
	}
}

// eachPlaces calls f with p, whose places are other ones each time: rising, falling, on both sides of 0, far away.
func eachPlaces(p api.Program, f func()) {
	places := progs.Places(p)
	for _, row := range [][2]int{{1, 1}, {1 << 20, -1}, {-1, -1}, {-len(places) / 2, 1}, {len(places) / 2, -1},
		{math.MaxInt, -1 << 32}, {math.MinInt, 1 << 32}} {
		putAts(places, row[0], row[1])
		f()
	}
}

// check checks that Check tells e of p, and the place that is marked, or 0 if none is, whatever numbers the places
// have; and that p stays what it is.
func check(t *testing.T, p api.Program, e api.Errno) {
	t.Helper()
	places := progs.Places(p)
	is := func(at *int) bool { return *at == mark }
	wrong := slices.IndexFunc(places, is)
	if (wrong >= 0) != (e != api.OK) || slices.ContainsFunc(places[wrong+1:], is) {
		t.Fatalf("the test itself is wrong: the marks in %s", told(p))
	}
	want := func() int {
		if wrong < 0 {
			return 0
		}
		return *places[wrong]
	}
	eachPlaces(p, func() { checkAnswer(t, p, e, want()) })
	checkOnce(t, p, e, want())
}

// checkAnswer checks that Check tells that of p.
func checkAnswer(t *testing.T, p api.Program, wantE api.Errno, wantAt int) {
	t.Helper()
	if e, at := Check(p); e != wantE || at != wantAt {
		t.Errorf("%s: %d at %d, want %d at %d", told(p), e, at, wantE, wantAt)
	}
}

// checkOnce checks that Check tells that of p, and that p stays what it is.
func checkOnce(t *testing.T, p api.Program, wantE api.Errno, wantAt int) {
	t.Helper()
	was := progs.Told(p)
	checkAnswer(t, p, wantE, wantAt)
	if progs.Told(p) != was {
		t.Errorf("%s: it was another", told(p))
	}
}

// checkText checks what Check tells of a text: `#` stands ahead of what is wrong, if something is, or `!` of what is
// wrong in Datas.
func checkText(t *testing.T, src string) {
	t.Helper()
	wantE, wantAt := api.OK, 0
	if at := strings.IndexAny(src, "#!"); at >= 0 {
		wantE, wantAt = map[byte]api.Errno{'#': api.ErrScope, '!': api.ErrData}[src[at]], at
		src = src[:at] + src[at+1:]
	}
	p := parsed(t, src)
	if e, at := Check(p); e != wantE || at != wantAt {
		t.Errorf("%q: %d at %d, want %d at %d", src, e, at, wantE, wantAt)
	}
	if e, at := firstWrong(p); e != wantE || at != wantAt {
		t.Errorf("%q: the test itself is wrong: %d at %d, want %d at %d", src, e, at, wantE, wantAt)
	}
	checkPlain(t, p)
}
