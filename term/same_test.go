package term

import (
	"math"
	"slices"
	"testing"

	"warp/api"
	"warp/lists"
	"warp/types"
)

// Promise 17.2: Same.

func TestAlike(t *testing.T) {
	all := append(right(), wrong()...)
	for i, one := range all {
		for j, other := range all {
			checkSame(t, one, types.Copy(other), i == j)
			checkSame(t, types.Con("L", one, one), types.Con("L", other, types.Copy(one)), i == j)
		}
	}
}

// TestKidsThatAreNotThere has lists of Kids that are nil, empty, empty with spare room.
func TestKidsThatAreNotThere(t *testing.T) {
	for _, y := range []api.Type{{}, types.Var(0), types.Con("Int"), {Kind: 9, N: -3, Name: "?"}} {
		empty, roomy := y, y
		y.Kids, empty.Kids, roomy.Kids = nil, []api.Type{}, lists.Roomy(nil, types.Var(0))
		checkSame(t, y, empty, true)
		checkSame(t, y, roomy, true)
		checkSame(t, empty, roomy, true)
		checkSame(t, types.Con("T", y, empty), types.Con("T", roomy, y), true)
		full := y
		full.Kids = types.Vars(0)
		checkSame(t, y, full, false)
		checkSame(t, roomy, full, false)
	}
	a := types.Of("T a (L b)")
	checkSame(t, types.Roomy(a), a, true)
	b := types.Roomy(a)
	b.Kids = append(b.Kids, types.Var(1))
	checkSame(t, b, a, false)
}

// changes tells ways to change a node, in one thing alone.
func changes() []func(at *api.Type) {
	return []func(at *api.Type){
		func(at *api.Type) { at.Kind = 3 - at.Kind }, func(at *api.Type) { at.Kind = 0 },
		func(at *api.Type) { at.Kind += 256 },
		func(at *api.Type) { at.Kind += 1 << 32 }, func(at *api.Type) { at.Kind = math.MinInt },
		func(at *api.Type) { at.N++ }, func(at *api.Type) { at.N = -1 - at.N }, func(at *api.Type) { at.N += 256 },
		func(at *api.Type) { at.N += 1 << 32 }, func(at *api.Type) { at.N = math.MinInt },
		func(at *api.Type) { at.Name += " " }, func(at *api.Type) { at.Name += "x" },
		func(at *api.Type) { at.Name += "\x00" },
		func(at *api.Type) { at.Name = " " + at.Name }, func(at *api.Type) { at.Name = "\xff" },
		func(at *api.Type) { at.Kids = append(slices.Clip(at.Kids), types.Var(0)) },
		func(at *api.Type) { at.Kids = append(slices.Clip(at.Kids), api.Type{}) },
		func(at *api.Type) { at.Kids = append([]api.Type{types.Con("Int")}, at.Kids...) },
		func(at *api.Type) { at.Kids = append(slices.Clip(at.Kids), at.Kids[:min(1, len(at.Kids))]...) },
		func(at *api.Type) { at.Kids = slices.Repeat(at.Kids, 2) }, func(at *api.Type) { at.Kids = nil },
		func(at *api.Type) { at.Kids = at.Kids[:max(len(at.Kids)-1, 0)] },
		func(at *api.Type) { at.Kids = at.Kids[min(1, len(at.Kids)):] },
		func(at *api.Type) { slices.Reverse(at.Kids) },
	}
}

// TestUnlikeInOneThing changes one thing of one node, first, in the midst, last, far within.
func TestUnlikeInOneThing(t *testing.T) {
	const s = "T (a -> L (T b Int)) (a, c, (b, L (L d))) (L a) (Bool -> (X_1 a b, a) -> b) Int"
	y := types.Of(s)
	for i := range types.Nodes(&y) {
		for _, change := range changes() {
			z := types.Of(s)
			change(types.Nodes(&z)[i])
			checkSame(t, y, z, types.Told(y) == types.Told(z))
			checkSame(t, z, types.Copy(z), true)
		}
	}
	deep := types.Nest(1000, types.Of(s))
	for i := range 1000 {
		if i%100 > 2 {
			continue
		}
		z := types.Copy(deep)
		types.Nodes(&z)[i].N = 1
		checkSame(t, deep, z, false)
	}
}

// TestUnlikeTexts has types whose names and Kids, one behind the other, are the same.
func TestUnlikeTexts(t *testing.T) {
	for _, of := range [][]string{{"T (L a) b", "T (L a b)", "T L a b", "T (L a b) c"},
		{"(a, b, c)", "((a, b), c)", "(a, (b, c))"},
		{"a -> b -> c", "(a -> b) -> c"}, {"L a", "La", "L A"}, {"T a b", "T b a", "T a a", "T a", "T a b b"},
		{"a", "A", "L"}, {"(a, b)", "a -> b", "T a b"}, {"a", "a1", "a2", "b"}, {"Int", "INt", "In", "Int2", "Int_"}} {
		for i, s := range of {
			for j, other := range of {
				checkSame(t, types.Of(s), types.Of(other), i == j)
			}
		}
	}
	// A variable and a name that have one N, one Name.
	checkSame(t, types.Var(0), api.Type{Kind: api.YCon}, false)
	checkSame(t, api.Type{Kind: api.YVar, Name: "Int"}, types.Con("Int"), false)
}

func TestSameOfSmallTypes(t *testing.T) {
	l := small(2, append(types.Vars(0, 1, 26), types.Con("Int"), api.Type{}))
	l = append(l, small(3, types.Vars(2))...)
	for i, one := range l {
		for _, other := range l[i:] {
			checkSame(t, one, other, types.Told(one) == types.Told(other))
		}
	}
}
