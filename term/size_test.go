package term

import (
	"slices"
	"testing"

	"warp/api"
	"warp/types"
)

// Promise 17.1: Size.

func TestSizes(t *testing.T) {
	for s, want := range map[string]int{"a": 1, "z3": 1, "Int": 1, "L a": 2, "a -> b": 3, "(a, b)": 3, "(a, a)": 3,
		"T a b c d": 5, "a -> b -> c": 5, "(a -> b) -> c": 5, "((a, a), T b Int)": 7, "L (L (L a))": 4,
		"(a, b, c, d, e, f, g, h)": 9, "T (a, b) (c -> d) (L Int) (X_1 a)": 11} {
		checkSize(t, types.Of(s), want)
	}
}

func TestSizesOfWhatMayNotBe(t *testing.T) {
	for _, y := range wrong() {
		want := len(types.Nodes(&y))
		checkSize(t, y, want)
		for n := range 10 {
			checkSize(t, types.Con("", slices.Repeat([]api.Type{y}, n)...), min(1+n*want, 401))
		}
	}
	checkSize(t, api.Type{Kind: api.YVar, N: -5, Name: "x", Kids: []api.Type{{}, {Kids: make([]api.Type, 3)}, {}}}, 7)
}

// many tells types of n nodes: deep ones, flat ones, such as are both, some of which may not be.
func many(n int) []api.Type {
	deep := types.Nest(n-1, types.Var(0))
	flat := types.Con("T", make([]api.Type, n-1)...)
	left, right, half := types.Var(0), types.Var(0), api.Type{}
	for range (n - 1) / 2 {
		left, right = types.To(left, types.Var(1)), types.To(types.Var(1), right)
	}
	if n%2 == 0 {
		left, right = types.Con("L", left), types.Con("L", right)
	}
	half.Kids = append(make([]api.Type, n/2), make([]api.Type, 3)...)[:n/2]
	l := []api.Type{deep, flat, left, right}
	if n > 2 {
		half.Kids[n/2-1] = types.Nest(n-n/2-1, api.Type{})
		l = append(l, half)
		half.Kids = slices.Clone(half.Kids)
		slices.Reverse(half.Kids)
		l = append(l, half)
	}
	return l
}

func TestMaxSize(t *testing.T) {
	for _, n := range []int{2, 3, 4, 10, 100, 255, 256, 257, 398, 399, 400, 401, 402, 403, 500, 656, 657, 799, 800,
		801, 802,
		1000, 5000, 1 << 16, 1<<16 + 400} {
		for i, y := range many(n) {
			if n < 1000 && len(types.Nodes(&y)) != n {
				t.Fatalf("the test itself is wrong: type %d has not %d nodes", i, n)
			}
			if got := Size(y); got != min(n, 401) {
				t.Errorf("type %d of %d nodes: %d", i, n, got)
			}
		}
	}
	// So many nodes that who looks at all of them would not end soon.
	y := types.Var(0)
	for range 60 {
		y = types.Tuple(y, y)
	}
	if Size(y) != 401 || Size(types.Con("T", types.Var(0), y, y)) != 401 {
		t.Error("of 2^61 nodes")
	}
}

// TestWhereManyAre has the node by which there are too many in each place.
func TestWhereManyAre(t *testing.T) {
	full := types.Con("T", slices.Repeat([]api.Type{types.Nest(18, types.Var(0))}, 21)...) // 400 nodes
	checkSize(t, full, 400)
	for i := range 21 {
		y := types.Copy(full)
		y.Kids[i] = types.Nest(19, types.Var(0))
		checkSize(t, y, 401)
		y.Kids[i] = types.Nest(17, types.Var(0))
		checkSize(t, y, 399)
		y.Kids[(i+5)%21] = types.Nest(19, types.Var(0))
		checkSize(t, y, 400)
		y.Kids[(i+7)%21] = types.Nest(1000, types.Var(0))
		checkSize(t, y, 401)
	}
}
