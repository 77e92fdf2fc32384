package term

import (
	"math"
	"slices"
	"strings"
	"testing"

	"warp/api"
	"warp/lists"
	"warp/types"
)

// Promise 17.1: May.

func TestVariables(t *testing.T) {
	for n, want := range map[int]bool{0: true, 1: true, 25: true, 26: true, 65536: true, api.MaxInt - 1: true,
		api.MaxInt: true, api.MaxInt + 1: false, 1 << 32: false, 1<<32 + 1: false, math.MaxInt: false, -1: false,
		-api.MaxInt: false, -1 << 32: false, 1 - 1<<32: false, math.MinInt: false, math.MinInt + 1: false} {
		checkMay(t, types.Var(n), want)
	}
	for _, n := range []int{0, 5, api.MaxInt} {
		for _, name := range []string{"a", "A", "Int", " ", "->", ",", "\x00"} {
			checkMay(t, api.Type{Kind: api.YVar, N: n, Name: name}, false)
			checkMay(t, api.Type{Kind: api.YVar, N: n, Name: name, Kids: types.Vars(0, 1)}, false)
		}
		for kids := range 22 {
			checkMay(t, api.Type{Kind: api.YVar, N: n, Kids: types.Vars(lists.Of(kids, 1)...)}, kids == 0)
			checkMay(t, api.Type{Kind: api.YVar, N: n, Kids: slices.Repeat([]api.Type{types.Con("Int")}, kids)},
				kids == 0)
		}
		checkMay(t, api.Type{Kind: api.YVar, N: n, Kids: []api.Type{}}, true)
		checkMay(t, api.Type{Kind: api.YVar, N: n, Kids: lists.Roomy(nil, types.Var(0))}, true)
	}
}

func TestKinds(t *testing.T) {
	for _, kind := range []int{0, 3, 4, -1, -2, 77, 256 + api.YVar, 256 + api.YCon, 1<<32 + api.YVar, 1<<32 + api.YCon,
		math.MinInt, math.MinInt + 1, math.MinInt + 2, math.MaxInt} {
		for _, y := range append(right(), wrong()...) {
			y.Kind = kind
			checkMay(t, y, false)
			checkMay(t, types.Con("L", y), false)
		}
	}
}

// TestNumbersOfNames has an N in what has a name.
func TestNumbersOfNames(t *testing.T) {
	for _, y := range right() {
		if y.Kind == api.YVar {
			continue
		}
		checkMay(t, y, true)
		for _, n := range []int{1, -1, 2, 26, 256, 65536, api.MaxInt, 1 << 32, math.MinInt, math.MaxInt} {
			y.N = n
			checkMay(t, y, false)
		}
	}
}

// TestHowManyKids has each number of Kids with each name, the Kids right.
func TestHowManyKids(t *testing.T) {
	for kids := range 50 {
		for _, l := range [][]api.Type{types.Vars(lists.Span(0, kids-1)...),
			slices.Repeat(types.All("L (a -> b)"), kids)} {
			checkMay(t, types.Con("->", l...), kids == 2)
			checkMay(t, types.Con(",", l...), 2 <= kids && kids <= 8)
			checkMay(t, types.Con("T", l...), kids <= 20)
			checkMay(t, types.Con("Int", l...), kids <= 20)
			for _, name := range []string{"", "t", "-", ">", ",,", "->->", "- >", " ->", "-> ", ", ", "=>", "(,)"} {
				checkMay(t, types.Con(name, l...), false)
			}
		}
	}
	for _, many := range []int{255, 256, 258, 260, 1 << 16, 1<<16 + 2} {
		for _, name := range []string{"->", ",", "T"} {
			checkMay(t, types.Con(name, make([]api.Type, many)...), false)
			checkMay(t, types.Con(name, types.Vars(make([]int, many)...)...), false)
		}
	}
}

func TestNames(t *testing.T) {
	upper, more := "ABCDEFGHIJKLMNOPQRSTUVWXYZ", "abcdefghijklmnopqrstuvwxyz0123456789_"
	for i := range 256 {
		b := string([]byte{byte(i)})
		isFirst, isIn := strings.Contains(upper, b), strings.Contains(upper+more, b)
		checkMay(t, types.Con(b), isFirst)
		for _, rest := range []string{"a", "Aa", "_", "9Z"} {
			checkMay(t, types.Con(b+rest), isFirst)
			checkMay(t, types.Con("A"+b+rest), isIn)
			checkMay(t, types.Con("A"+rest+b), isIn)
			checkMay(t, types.Con("A"+rest+b, types.Vars(0, 1)...), isIn)
		}
	}
	for n := range 70 {
		for _, s := range []string{"A", "AA", "Az", "A_9b"} {
			name := (s + strings.Repeat(s[1:]+"x", n))[:n]
			checkMay(t, types.Con(name), 1 <= n && n <= 30)
			checkMay(t, types.Con(name, types.Var(0)), 1 <= n && n <= 30)
		}
		checkMay(t, types.Con(strings.Repeat("a", n)), false)
		checkMay(t, types.Con(strings.Repeat("_", n)), false)
		checkMay(t, types.Con(strings.Repeat("0", n)), false)
	}
	// One wrong byte in each place of names of each length.
	for n := 1; n <= 30; n++ {
		for i := range n {
			for _, b := range []string{"'", " ", "-", "\x00", "\xff", "/", ":", "@", "[", "`", "{"} {
				name := "A" + strings.Repeat("b", n-1)
				checkMay(t, types.Con(name), true)
				checkMay(t, types.Con(name[:i]+b+name[i+1:]), false)
			}
		}
	}
	checkMay(t, types.Con("A"+strings.Repeat("x", 1<<16)), false)
	checkMay(t, types.Con("A"+strings.Repeat("x", 255)), false)
	checkMay(t, types.Con("A"+strings.Repeat("x", 256)), false)
	// Words are none of these, as they begin with a small letter; texts that are no ASCII never are.
	for _, s := range []string{"data", "let", "in", "true", "false", "a", "é", "É", "Aé", "A\xff", "\xff", "A B",
		"A ", " A", "A\n", "A-", "A->", "A,", "A.B", "Ä", "Ω", "A'"} {
		checkMay(t, types.Con(s), false)
	}
	for _, s := range []string{"Data", "Let", "In", "True", "False", "DATA", "A", "Z", "Z_", "A__9", "T0"} {
		checkMay(t, types.Con(s), true)
	}
}

// TestWrongKids puts what may not be into each place of what may.
func TestWrongKids(t *testing.T) {
	for _, y := range wrong() {
		checkMay(t, y, false)
		for name, most := range map[string]int{"->": 2, ",": 8, "T": 20} {
			for _, kids := range []int{1, 2, 3, 8, 20} {
				if kids > most || kids == 1 && name != "T" || kids != 2 && name == "->" {
					continue
				}
				for i := range kids {
					l := types.Vars(lists.Span(0, kids-1)...)
					checkMay(t, types.Con(name, l...), true)
					l[i] = y
					checkMay(t, types.Con(name, l...), false)
					checkMay(t, types.To(types.Var(0), types.Tuple(types.Con(name, l...), types.Con("Int"))), false)
				}
			}
		}
		for _, deep := range []int{1, 2, 10, 90} {
			checkMay(t, types.Nest(deep, y), false)
			checkMay(t, types.Nest(deep, types.To(types.Con("Int"), y)), false)
		}
	}
}

// TestEachNodeWrong makes each node of a type one that may not be.
func TestEachNodeWrong(t *testing.T) {
	const s = "(a -> T b (L (c, Int)) d, (X_1 a, b -> b)) -> (a -> b) -> T a"
	y := types.Of(s)
	for i := range types.Nodes(&y) {
		for j, change := range []func(at *api.Type){func(at *api.Type) { at.Kind = 0 },
			func(at *api.Type) { at.Kind = 3 }, func(at *api.Type) { at.N = -1 },
			func(at *api.Type) { at.Name += "'" }, func(at *api.Type) { at.Kids = make([]api.Type, 1) },
			func(at *api.Type) { at.Kids = append(at.Kids, api.Type{}) },
			func(at *api.Type) { at.Kind = 3 - at.Kind }} {
			z := types.Of(s)
			checkMay(t, z, true)
			change(types.Nodes(&z)[i])
			if May(z) {
				t.Errorf("node %d, change %d: it may be", i, j)
			}
			checkMay(t, z, false)
		}
	}
}

// ways tells ways to put a type into another one, by which it is one deeper.
func ways() []func(y api.Type) api.Type {
	v := types.Var(1)
	return []func(y api.Type) api.Type{
		func(y api.Type) api.Type { return types.Con("L", y) },
		func(y api.Type) api.Type { return types.To(y, v) },
		func(y api.Type) api.Type { return types.To(v, y) },
		func(y api.Type) api.Type { return types.Tuple(y, v) },
		func(y api.Type) api.Type { return types.Tuple(v, v, v, v, v, v, v, y) },
		func(y api.Type) api.Type { return types.Con("T", append(types.Vars(lists.Of(19, 2)...), y)...) },
		func(y api.Type) api.Type { return types.Con("T", v, types.Con("Int"), y, v) },
	}
}

func TestHowDeep(t *testing.T) {
	all := ways()
	for _, leaf := range types.All("a", "Int") {
		for way, wrap := range all {
			one, mixed := leaf, leaf
			for deep := 1; deep <= 110; deep++ {
				checkMay(t, one, deep <= 100)
				checkMay(t, mixed, deep <= 100)
				one, mixed = wrap(one), all[(way+deep)%len(all)](mixed)
			}
		}
	}
	for _, deep := range []int{200, 255, 256, 257, 300, 356, 1000} {
		checkMay(t, types.Nest(deep, types.Var(0)), false)
	}
	// What is too deep is so beside what is not, first or last.
	deep, flat := types.Nest(99, types.Var(0)), types.Var(0)
	checkMay(t, deep, true)
	for i := range 20 {
		l := slices.Repeat([]api.Type{flat}, 20)
		l[i] = deep
		checkMay(t, types.Con("T", l...), false)
		l[i] = deep.Kids[0]
		checkMay(t, types.Con("T", l...), true)
	}
}

// Of how many nodes a type has May says nothing.
func TestManyNodes(t *testing.T) {
	y := types.Var(0)
	for range 4 {
		y = types.Con("T", slices.Repeat([]api.Type{y}, 20)...)
	}
	checkMay(t, y, true)
	at := types.Nodes(&y)
	at[len(at)-1].N = -1
	checkMay(t, y, false)
}
