package term

import (
	"slices"
	"testing"

	"warp/api"
	"warp/lists"
	"warp/types"
)

// Promises 17.1, of Vars and Canon, and 17.3.

// ofVars are types as texts, their variables, and their Canons.
func ofVars() []struct {
	s     string
	vars  []int
	canon string
} {
	return []struct {
		s     string
		vars  []int
		canon string
	}{
		{"Int", nil, "Int"}, {"T Int (Bool -> (Int, L Bool))", nil, "T Int (Bool -> (Int, L Bool))"},
		{"a", []int{0}, "a"}, {"b", []int{1}, "a"}, {"z3", []int{103}, "a"}, {"L c", []int{2}, "L a"},
		{"a -> a", []int{0}, "a -> a"}, {"d -> d", []int{3}, "a -> a"}, {"a -> b", []int{0, 1}, "a -> b"},
		{"b -> a", []int{1, 0}, "a -> b"}, {"b -> a -> b", []int{1, 0}, "a -> b -> a"},
		{"(b -> a) -> b", []int{1, 0}, "(a -> b) -> a"}, {"(a -> c) -> b", []int{0, 2, 1}, "(a -> b) -> c"},
		{"(c, b, a)", []int{2, 1, 0}, "(a, b, c)"}, {"(h, g, f, e, d, c, b, a)", []int{7, 6, 5, 4, 3, 2, 1, 0},
			"(a, b, c, d, e, f, g, h)"},
		{"T c (L a) c b a", []int{2, 0, 1}, "T a (L b) a c b"}, {"T (L (L c)) b", []int{2, 1}, "T (L (L a)) b"},
		{"((h, T d h) , Int -> a)", []int{7, 3, 0}, "((a, T b a), Int -> c)"},
		{"b1 -> z -> b1 -> a1", []int{27, 25, 26}, "a -> b -> a -> c"},
		{"(L a, (b, L b), (a, c))", []int{0, 1, 2}, "(L a, (b, L b), (a, c))"},
		{"T Int b Int a b", []int{1, 0}, "T Int a Int b a"}, {"(a, a, a, b, a)", []int{0, 1}, "(a, a, a, b, a)"},
		{"(b, b, b, a, b)", []int{1, 0}, "(a, a, a, b, a)"},
	}
}

func TestVars(t *testing.T) {
	for _, of := range ofVars() {
		checkVars(t, types.Of(of.s), of.vars...)
		checkCanon(t, types.Of(of.s), types.Of(of.canon))
		checkVars(t, types.Of(of.canon), lists.Span(0, len(of.vars)-1)...)
	}
}

// TestGreatNumbers has numbers of variables whose lowest bits are the same.
func TestGreatNumbers(t *testing.T) {
	l := []int{api.MaxInt, 0, 1 << 16, 1 << 8, api.MaxInt - 1, 1<<16 + 1, 1, 1 << 30, 26, 1<<30 + 1<<16}
	checkVars(t, types.Con("T", append(types.Vars(l...), types.Vars(l...)...)...), l...)
	checkCanon(t, types.Con("T", types.Vars(l...)...), types.Con("T", types.Vars(lists.Span(0, len(l)-1)...)...))
	checkCanon(t, types.Con("T", append(types.Vars(l...), types.Vars(l[3], l[0])...)...),
		types.Con("T", types.Vars(append(lists.Span(0, len(l)-1), 3, 0)...)...))
	for _, n := range l {
		checkVars(t, types.Var(n), n)
		checkCanon(t, types.Var(n), types.Var(0))
	}
}

// TestOrdersOfVars has variables in all orders, in trees of each shape.
func TestOrdersOfVars(t *testing.T) {
	for n := 1; n <= 6; n++ {
		lists.Orders(lists.Span(0, n-1), func(order []int) {
			left, right := types.Var(order[0]), types.Var(order[n-1])
			canonLeft, canonRight := types.Var(0), types.Var(n-1)
			for i := 1; i < n; i++ {
				left, right = types.To(left, types.Var(order[i])), types.To(types.Var(order[n-1-i]), right)
				canonLeft = types.To(canonLeft, types.Var(i))
				canonRight = types.To(types.Var(n-1-i), canonRight)
			}
			checkVars(t, left, order...)
			checkVars(t, right, order...)
			checkCanon(t, left, canonLeft)
			checkCanon(t, right, canonRight)
			checkVars(t, types.To(left, right), order...)
			checkVars(t, types.Con("T", types.Vars(append(slices.Clone(order), order[0])...)...), order...)
		})
	}
}

// TestWhereVarsStand has a variable in each place of names, tuples, functions: alone, and twice.
func TestWhereVarsStand(t *testing.T) {
	for name, most := range map[string]int{"->": 2, ",": 8, "T": 20} {
		for i := range most {
			l := slices.Repeat(types.All("L Int"), most)
			l[i] = types.Of("L (b, c)")
			checkVars(t, types.Con(name, l...), 1, 2)
			for j := i + 1; j < most; j++ {
				l[j] = types.Of("(c, a, b)")
				checkVars(t, types.Con(name, l...), 1, 2, 0)
				l[j] = types.Of("L Int")
			}
		}
	}
}

func TestManyVars(t *testing.T) {
	const n = 1 << 16
	back := lists.Span(0, n-1)
	slices.Reverse(back)
	y, canon := tree(types.Vars(back...)), tree(types.Vars(lists.Span(0, n-1)...))
	checkVars(t, y, back...)
	checkCanon(t, y, canon)
	checkVars(t, types.To(y, y), back...)
	checkCanon(t, types.To(y, y), types.To(canon, canon))
	checkVars(t, tree(slices.Repeat(types.Vars(5), n)), 5)
}

// tree tells a type that has those in it, in order: two in one, two of these in one, and so on.
func tree(l []api.Type) api.Type {
	if len(l) == 1 {
		return l[0]
	}
	return types.Tuple(tree(l[:len(l)/2]), tree(l[len(l)/2:]))
}

// Promise 17.3.

// renames tells whether a and b differ in their variables' numbers alone: whatever has one number in the one has one in
// the other, and the other way round.
func renames(a, b api.Type) bool {
	there, back := map[int]int{}, map[int]int{}
	pairs := func(m map[int]int, from, to int) bool {
		known, is := m[from]
		m[from] = to
		return !is || known == to
	}
	var walk func(a, b api.Type) bool
	walk = func(a, b api.Type) bool {
		if a.Kind != b.Kind || a.Name != b.Name || len(a.Kids) != len(b.Kids) {
			return false
		}
		if a.Kind == api.YVar && (!pairs(there, a.N, b.N) || !pairs(back, b.N, a.N)) {
			return false
		}
		for i := range a.Kids {
			if !walk(a.Kids[i], b.Kids[i]) {
				return false
			}
		}
		return true
	}
	return walk(a, b)
}

// checkOneCanon checks that a and b have one Canon, if they differ in their variables' numbers alone; else two.
func checkOneCanon(t *testing.T, a, b api.Type, want bool) {
	t.Helper()
	if renames(a, b) != want {
		t.Errorf("the test itself is wrong: %s, %s", types.Cut(a), types.Cut(b))
	}
	if got := types.Told(Canon(a)) == types.Told(Canon(b)); got != want {
		t.Errorf("%s, %s: one Canon: %v", types.Cut(a), types.Cut(b), got)
	}
	if got := Text(Canon(a)) == Text(Canon(b)); got != want {
		t.Errorf("%s, %s: one text of their Canons: %v", types.Cut(a), types.Cut(b), got)
	}
}

func TestOneCanon(t *testing.T) {
	for _, of := range [][]string{{"a", "b", "z3"}, {"a -> a", "b -> b"}, {"a -> b", "b -> a", "z -> a1", "b -> z"},
		{"T a b c", "T c b a", "T b1 b c1"}, {"T a b a", "T b a b", "T z y z"}, {"(L a, a -> b)", "(L b, b -> a)"},
		{"T a (L b) a", "T b (L a) b"}, {"Int", "Int"}} {
		for _, s := range of {
			for _, other := range of {
				checkOneCanon(t, types.Of(s), types.Of(other), true)
			}
		}
	}
}

func TestOtherCanons(t *testing.T) {
	for _, of := range [][]string{{"a", "Int", "L a", "a -> a", "(a, a)"}, {"a -> a", "a -> b", "a -> Int", "Int -> a"},
		{"T a b a", "T a b b", "T a b c", "T a a b", "T a a a", "X_1 a b a", "T a b", "T a b a b", "(a, b, a)"},
		{"(L a, a)", "(L a, b)", "(a, L a)", "(a, L b)"}, {"a -> b -> c", "(a -> b) -> c", "(a -> b, c)"},
		{"T (L a) b", "T (L a) a", "T a (L b)"}, {"Int", "Bool"}} {
		for i, s := range of {
			for j, other := range of {
				checkOneCanon(t, types.Of(s), types.Of(other), i == j)
			}
		}
	}
}

// small tells all types at most so deep that are made of these leaves by one name, by functions and by pairs.
func small(deep int, leaves []api.Type) []api.Type {
	if deep == 1 {
		return leaves
	}
	inner := small(deep-1, leaves)
	l := slices.Clone(leaves)
	for _, one := range inner {
		l = append(l, types.Con("L", one))
		for _, other := range inner {
			l = append(l, types.To(one, other), types.Tuple(one, other))
		}
	}
	return l
}

func TestCanonsOfSmallTypes(t *testing.T) {
	l := small(2, append(types.Vars(0, 1, 2, 30), types.Con("Int")))
	l = append(l, small(3, types.Vars(1, 0))...)
	for i, one := range l {
		for _, other := range l[i%3:] {
			checkOneCanon(t, one, other, renames(one, other))
		}
	}
}
