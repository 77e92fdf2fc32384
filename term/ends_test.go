package term

import (
	"math"
	"slices"
	"strings"
	"testing"

	"warp/api"
	"warp/plays"
	"warp/types"
)

// R1: the same call tells the same; every call ends, and none panics.

func TestTheSameAgain(t *testing.T) {
	next := plays.Below(181)
	for i := range 500 {
		y, l, other := changed(next, i%3), put(next), changed(next, 1)
		may, size, vars, text := May(y), Size(y), slices.Clone(Vars(y)), Text(y)
		told := types.Told(answers(y, l)...)
		for _, same := range []api.Type{y, types.Copy(y), types.Roomy(y), y} {
			checkPlain(t, other, y, l)
			if May(same) != may || Size(same) != size || !slices.Equal(Vars(same), vars) || Text(same) != text ||
				types.Told(answers(same, l)...) != told || !Same(same, y) {
				t.Fatalf("%s: another answer", types.Cut(y))
			}
		}
	}
}

// TestManyTimes calls often enough that it would be seen if the order in which a map is gone through were.
func TestManyTimes(t *testing.T) {
	y := types.Of("T (l, k, j, i, h, g) (f, e, d, c, b, a) (a1, z, y, x) l a k")
	vars, canon := plainVars(y), types.Told(plainCanon(y))
	for range 500 {
		if !slices.Equal(Vars(y), vars) || types.Told(Canon(y)) != canon {
			t.Fatal("another answer")
		}
	}
}

// TestWrongInputsEnd hands in each Kind with each N, Name, and number of Kids, alone and in what may be.
func TestWrongInputsEnd(t *testing.T) {
	names := []string{"", "Int", "int", "->", ",", "\xff", strings.Repeat("A", 31), strings.Repeat("->", 1000)}
	for _, kind := range []int{math.MinInt, -1, 0, 1, 2, 3, 256 + 1, 1<<32 + 2, math.MaxInt} {
		for _, n := range []int{math.MinInt, -1 << 32, -27, -26, -1, 0, 1, 26, api.MaxInt, api.MaxInt + 1,
			math.MaxInt} {
			for _, name := range names {
				for kids := range 23 {
					if kids > 9 && kids < 20 {
						continue
					}
					y := api.Type{Kind: kind, N: n, Name: name, Kids: make([]api.Type, kids)}
					for i := range kids {
						y.Kids[i] = types.Con("T", types.Var(i))
					}
					checkEnds(t, y)
				}
			}
		}
	}
}

// checkEnds checks that all calls end, of y and of what has y in it, and that those say of y what they must.
func checkEnds(t *testing.T, y api.Type) {
	t.Helper()
	for _, z := range []api.Type{y, types.Con("L", y), types.To(types.Var(0), y)} {
		if may := plainMay(z); May(z) != may {
			t.Errorf("of %s: it may be: %v", types.Cut(z), !may)
		} else if !may {
			checkNothing(t, z)
		}
		if Size(z) != plainSize(z) || !Same(z, types.Copy(z)) {
			t.Errorf("of %s: Size, Same", types.Cut(z))
		}
		if got := Subst(types.Var(1), []api.Type{{}, z}); !Same(got, z) {
			t.Errorf("of %s: Subst put %s", types.Cut(z), types.Cut(got))
		}
	}
}

// TestWideTypes hands in so many Kids that who holds each against each other one would not end soon.
func TestWideTypes(t *testing.T) {
	const n = 1 << 18
	for _, kid := range []api.Type{{}, types.Var(0), types.Con("Int"), types.Of("a -> b")} {
		kids := slices.Repeat([]api.Type{kid}, n)
		for _, y := range []api.Type{{Kids: kids}, {Kind: api.YVar, Kids: kids},
			{Kind: api.YCon, Name: "T", Kids: kids},
			{Kind: api.YCon, Name: ",", Kids: kids}, {Kind: api.YCon, Name: "->", Kids: kids}} {
			if checkNothing(t, y); May(y) || Size(y) != 401 {
				t.Errorf("of %d kids it may be, or has another size", n)
			}
			other := y
			other.Kids = slices.Clone(kids)
			if !Same(y, other) {
				t.Error("it is not like its copy")
			}
			other.Kids[n-1].N++
			if Same(y, other) {
				t.Error("it is like one whose last Kid is another")
			}
		}
	}
	// Most of what is to be put has no variable for which it is.
	l := make([]api.Type, n)
	l[n-1] = types.Con("Int")
	checkType(t, "Subst", types.Var(n-1), Subst(types.Tuple(types.Var(n-1), types.Var(n)), l),
		types.Tuple(types.Con("Int"), types.Var(n)))
}

// TestDeepTypes hands in what is as deep as anything may be that is handed in.
func TestDeepTypes(t *testing.T) {
	const deep = 1<<16 - 1
	for _, leaf := range []api.Type{types.Var(0), types.Con("Int"), {}} {
		for _, wrap := range append(ways()[:4], func(y api.Type) api.Type { return api.Type{Kids: []api.Type{y}} },
			func(y api.Type) api.Type { return api.Type{Kind: api.YVar, Kids: []api.Type{{}, y}} }) {
			y, other, third := leaf, leaf, types.Con("Bool")
			for range deep - 1 {
				y, other, third = wrap(y), wrap(other), wrap(third)
			}
			if checkNothing(t, y); May(y) || Size(y) != 401 || !Same(y, other) || Same(y, third) || Same(third, y) {
				t.Fatalf("of a type %d deep", deep)
			}
			if !Same(Subst(types.Var(0), []api.Type{y}), other) {
				t.Fatalf("of a type %d deep, put", deep)
			}
		}
	}
}

// What may be and is large: each call goes through it once, or so.
func TestLargeTypes(t *testing.T) {
	const n = 1 << 17
	var l []api.Type
	for i := range n {
		l = append(l, types.Con("L", types.Var(n-1-i)))
	}
	y := tree(l)
	if !May(y) || Size(y) != 401 || len(Vars(y)) != n || !Same(y, Subst(y, nil)) || Same(y, Canon(y)) {
		t.Error("of a large type")
	}
	if s := Text(y); len(s) < 4*n || strings.Count(s, "L ") != n ||
		!strings.HasSuffix(s, "(L b, L a)"+strings.Repeat(")", 16)) {
		t.Error("of its text")
	}
	slices.Reverse(l)
	if !Same(Canon(y), tree(l)) {
		t.Error("of its Canon")
	}
}
