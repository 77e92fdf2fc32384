package term

import (
	"math"
	"slices"
	"testing"

	"warp/api"
	"warp/lists"
	"warp/types"
)

// Promise 17.1: Subst.

func TestSubst(t *testing.T) {
	for _, of := range []struct {
		s, want string
		l       []string
	}{
		{"a", "Int", []string{"Int"}}, {"a", "b -> c", []string{"b -> c"}}, {"a", "a", []string{"a"}},
		{"b", "b", []string{"Int"}}, {"b", "Int", []string{"Bool", "Int"}},
		{"b", "Bool", []string{"Int", "Bool", "L a"}},
		{"c", "c", []string{"Int", "Bool"}}, {"c", "L a", []string{"Int", "Bool", "L a"}},
		{"Int", "Int", []string{"Bool", "L a"}}, {"a -> b", "b -> a", []string{"b", "a"}},
		{"a -> a", "(b -> c) -> b -> c", []string{"b -> c"}}, {"a -> b", "(a -> b) -> b", []string{"a -> b"}},
		{"(a, b, a)", "((b, a), L a, (b, a))", []string{"(b, a)", "L a"}},
		{"T a (L b) (b -> a) (a, Int)", "T Int (L (L a)) (L a -> Int) (Int, Int)", []string{"Int", "L a"}},
		// What is put has variables of its own: they stay as they are, in each order.
		{"(a, b, c)", "(b, c, a)", []string{"b", "c", "a"}}, {"(a, b, c)", "(c, a, b)", []string{"c", "a", "b"}},
		{"(a, b, c)", "(b, b, c)", []string{"b"}}, {"(a, b)", "(L a, L b)", []string{"L a", "L b"}},
		{"(a, b)", "(L b, L a)", []string{"L b", "L a"}}, {"T a b", "T (T a b) (T b a)", []string{"T a b", "T b a"}},
		{"T a z", "T z z", []string{"z"}}, {"T d h", "T h h", []string{"Bool", "j", "a -> b", "h"}},
		// A name is no variable, whatever its N is.
		{"T Int a", "T Int Bool", []string{"Bool", "L a"}}, {"L (L (L a))", "L (L (L (L Int)))", []string{"L Int"}},
	} {
		checkSubst(t, types.Of(of.s), types.All(of.l...), types.Of(of.want))
	}
}

func TestSubstOfNothing(t *testing.T) {
	for _, y := range right() {
		checkSubst(t, y, nil, y)
		checkSubst(t, y, []api.Type{}, y)
		checkSubst(t, y, lists.Roomy(nil, types.Con("Int")), y)
	}
}

// TestPlacesOfSubst has each number of types to be put, and variables at, ahead of and behind the end of these.
func TestPlacesOfSubst(t *testing.T) {
	numbers := []int{0, 1, 2, 3, 4, 5, 6, 255, 256, 257, 1 << 16, 1<<16 + 1, api.MaxInt - 1, api.MaxInt}
	for n := range 7 {
		var l []api.Type
		for i := range n {
			l = append(l, types.Con("T", types.Var(i+1), types.Var(i-1+n), types.Var(api.MaxInt)))
		}
		roomy := lists.Roomy(l, types.Con("Int"))
		var want []api.Type
		for _, number := range numbers {
			y := types.Var(number)
			if number < n {
				y = l[number]
			}
			want = append(want, y)
			checkSubst(t, types.Var(number), l, y)
			checkSubst(t, types.Var(number), roomy, y)
		}
		checkSubst(t, types.Con("T", types.Vars(numbers...)...), l, types.Con("T", want...))
		checkSubst(t, types.Con("T", types.Vars(numbers...)...), roomy, types.Con("T", want...))
	}
}

// TestSubstInEachPlace puts something for a variable that stands in each place of names, tuples, functions.
func TestSubstInEachPlace(t *testing.T) {
	for name, most := range map[string]int{"->": 2, ",": 8, "T": 20} {
		for i := range most {
			for _, other := range types.All("Int", "b", "L (b, b)") {
				l := slices.Repeat([]api.Type{other}, most)
				want := slices.Clone(l)
				l[i], want[i] = types.Of("L (a, Int)"), types.Of("L ((a, c), Int)")
				checkSubst(t, types.Con(name, l...), types.All("(a, c)"), types.Con(name, want...))
			}
		}
	}
	for _, wrap := range ways() {
		y, want := types.Var(0), types.Of("(a, Int)")
		for range 99 {
			y, want = wrap(y), wrap(want)
		}
		checkSubst(t, y, types.All("(a, Int)"), want) // 101 deep then
		checkSubst(t, y, types.All("a"), y)
	}
}

// TestSubstOfDeepTypes has an answer that is twice as deep as a type may be.
func TestSubstOfDeepTypes(t *testing.T) {
	y := types.Nest(99, types.Var(0))
	got := Subst(y, []api.Type{y})
	if types.Told(got) != types.Told(types.Nest(198, types.Var(0))) || May(got) {
		t.Error(types.Cut(got))
	}
	got = Subst(types.Tuple(y, types.Var(0)), []api.Type{types.Var(1)})
	if got.Kind != 0 || types.Told(got) != types.Told(api.Type{}) {
		t.Error("of one that is too deep")
	}
}

// What is put stays as it is, if it may be no type, too; and what is not put is not looked at.
func TestSubstByWhatMayNotBe(t *testing.T) {
	for _, x := range append(wrong(), types.Nest(60000, types.Var(0))) {
		checkSubst(t, types.Var(0), []api.Type{x}, x)
		checkSubst(t, types.Of("(b, L a)"), []api.Type{x, x}, types.Tuple(x, types.Con("L", x)))
		checkSubst(t, types.Of("(b, L c)"), []api.Type{x, types.Con("Int"), types.Var(0), x}, types.Of("(Int, L a)"))
		checkSubst(t, types.Of("L (b, Int)"), []api.Type{x}, types.Of("L (b, Int)"))
	}
	x := api.Type{Kind: api.YVar, N: math.MinInt, Name: "v", Kids: []api.Type{types.Var(0), {Kids: types.Vars(1, 0)}}}
	checkSubst(t, types.Of("a -> b"), []api.Type{x, types.Con("Int")}, types.To(x, types.Con("Int")))
}

func TestManyNodesOfSubst(t *testing.T) {
	const n = 1 << 12
	y, all := tree(types.Vars(lists.Span(0, n-1)...)), make([]api.Type, n)
	for i := range n {
		all[i] = types.Con("T", types.Var(n-i), types.Con("Int"))
	}
	checkSubst(t, y, all, tree(all))
	checkSubst(t, y, all[:n/2], tree(append(slices.Clone(all[:n/2]), types.Vars(lists.Span(n/2, n-1)...)...)))
	one := tree(types.Vars(lists.Of(1<<8, 0)...))
	checkSubst(t, one, []api.Type{one}, tree(types.Vars(lists.Of(1<<16, 0)...)))
}
