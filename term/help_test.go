package term

import (
	"slices"
	"testing"

	"warp/api"
	"warp/types"
)

// checkStays checks that y is what it was.
func checkStays(t *testing.T, y api.Type, was string) {
	t.Helper()
	if types.Told(y) != was {
		t.Errorf("%s: it was another", types.Cut(y))
	}
}

// checkType checks that got is want, in all.
func checkType(t *testing.T, what string, y, got, want api.Type) {
	t.Helper()
	if types.Told(got) != types.Told(want) {
		t.Errorf("%s of %s: %s, want %s", what, types.Cut(y), types.Cut(got), types.Cut(want))
	}
}

// checkMay checks that y may be; or that it may not, and that of it nothing more is told.
func checkMay(t *testing.T, y api.Type, want bool) {
	t.Helper()
	was := types.Told(y)
	for range 2 {
		if May(y) != want {
			t.Errorf("of %s: it may be: %v", types.Cut(y), !want)
		}
	}
	if !want {
		checkNothing(t, y)
	}
	checkStays(t, y, was)
}

// checkNothing checks that of y, which may not be, Vars, Subst, Canon and Text tell nothing.
func checkNothing(t *testing.T, y api.Type) {
	t.Helper()
	for _, got := range []api.Type{Subst(y, nil), Subst(y, types.Vars(3, 4, 5)), Canon(y)} {
		if got.Kind != 0 || got.N != 0 || got.Name != "" || len(got.Kids) != 0 {
			t.Errorf("of %s, which may not be: %s", types.Cut(y), types.Cut(got))
		}
	}
	if l, s := Vars(y), Text(y); len(l) != 0 || s != "" {
		t.Errorf("of %s, which may not be: %d variables, %.300q", types.Cut(y), len(l), s)
	}
}

func checkSize(t *testing.T, y api.Type, want int) {
	t.Helper()
	was := types.Told(y)
	for range 2 {
		if got := Size(y); got != want {
			t.Errorf("of %s: size %d, want %d", types.Cut(y), got, want)
		}
	}
	checkStays(t, y, was)
}

// checkVars checks that Vars tells those numbers of y, again when the answer is spoilt.
func checkVars(t *testing.T, y api.Type, want ...int) {
	t.Helper()
	was := types.Told(y)
	for range 2 {
		got := Vars(y)
		if !slices.Equal(got, want) {
			t.Errorf("of %s: variables %v, want %v", types.Cut(y), got[:min(len(got), 200)], want[:min(len(want), 200)])
		}
		for i := range got {
			got[i] = -7
		}
		checkStays(t, y, was)
	}
}

// checkSubst checks that Subst tells that of y and l, again when the answer is spoilt, and that both stay.
func checkSubst(t *testing.T, y api.Type, l []api.Type, want api.Type) {
	t.Helper()
	was, all := types.Told(y), types.Told(l...)
	for range 2 {
		got := Subst(y, l)
		checkType(t, "Subst", y, got, want)
		types.Scribble(got)
		checkStays(t, y, was)
		if types.Told(l...) != all {
			t.Errorf("of %s: Subst changed what was to be put", types.Cut(y))
		}
	}
}

// checkCanon checks that Canon tells that of y, again when the answer is spoilt, and of the answer the same.
func checkCanon(t *testing.T, y, want api.Type) {
	t.Helper()
	was := types.Told(y)
	for range 2 {
		got := Canon(y)
		checkType(t, "Canon", y, got, want)
		checkType(t, "Canon, twice,", y, Canon(got), want)
		types.Scribble(got)
		checkStays(t, y, was)
	}
}

func checkText(t *testing.T, y api.Type, want string) {
	t.Helper()
	was := types.Told(y)
	for range 2 {
		if got := Text(y); got != want {
			t.Errorf("of %s: text %.300q of %d bytes, want %.300q", types.Cut(y), got, len(got), want)
		}
	}
	checkStays(t, y, was)
}

// checkSame checks whether a and b are alike, whichever stands first, and that each is like itself.
func checkSame(t *testing.T, a, b api.Type, want bool) {
	t.Helper()
	wasA, wasB := types.Told(a), types.Told(b)
	if Same(a, b) != want || Same(b, a) != want {
		t.Errorf("%s, %s: alike: %v", types.Cut(a), types.Cut(b), !want)
	}
	if !Same(a, a) || !Same(b, b) {
		t.Errorf("%s, %s: one is not like itself", types.Cut(a), types.Cut(b))
	}
	checkStays(t, a, wasA)
	checkStays(t, b, wasB)
}

// right tells types that may be, of each sort, among them what stands at an edge.
func right() []api.Type {
	l := types.All("a", "z", "a1", "Int", "a -> b", "(a, b)", "L a", "T a (L b) (c -> a) (a, b)", "(a -> b) -> L (L a)",
		"(a, b, c, d, e, f, g, h)", "((Int, a), b -> c) -> (a, (b, b))")
	return append(l, types.Var(api.MaxInt), types.Con("T", types.Vars(make([]int, 20)...)...),
		types.Nest(99, types.Var(3)))
}

// wrong tells types that may not be, of each sort.
func wrong() []api.Type {
	v, con := types.Var, types.Con
	return []api.Type{{}, {Kind: 3}, {Kind: -1, N: 1, Name: "Int", Kids: types.Vars(0, 1)}, v(-1), v(api.MaxInt + 1),
		{Kind: api.YVar, Name: "a"}, {Kind: api.YVar, Kids: types.Vars(0)}, {Kind: api.YCon, N: 1, Name: "Int"},
		con(""), con("int"), con("A'"), con("->"), con("->", v(0)), con("->", types.Vars(0, 1, 2)...), con(","),
		con(",", v(0)), con(",", types.Vars(0, 1, 2, 3, 4, 5, 6, 7, 8)...), con("T", types.Vars(make([]int, 21)...)...),
		types.Nest(100, v(0))}
}
