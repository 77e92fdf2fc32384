package term

import (
	"strconv"
	"strings"
	"testing"

	"warp/api"
	"warp/lists"
	"warp/types"
)

// Promise 17.2: Text.

func TestTextsOfVariables(t *testing.T) {
	for n, want := range map[int]string{0: "a", 1: "b", 12: "m", 24: "y", 25: "z", 26: "a1", 27: "b1", 50: "y1",
		51: "z1", 52: "a2", 53: "b2", 259: "z9", 260: "a10", 26 * 26: "a26", 26*99 + 25: "z99", 2600: "a100",
		1 << 16: "q2520", 26*1000 - 1: "z999", 783: "d30", 1<<31 - 2: "w82595524", 1<<31 - 1: "x82595524"} {
		checkText(t, types.Var(n), want)
		checkText(t, types.Con("L", types.Var(n)), "L "+want)
		checkText(t, types.Tuple(types.Var(n), types.Var(0), types.Var(n)), "("+want+", a, "+want+")")
		checkText(t, types.To(types.Var(n), types.Var(n)), want+" -> "+want)
	}
	n := 0
	for times := range 200 {
		for _, letter := range strings.Split("abcdefghijklmnopqrstuvwxyz", "") {
			want := letter
			if times > 0 {
				want += strconv.Itoa(times)
			}
			checkText(t, types.Var(n), want)
			n++
		}
	}
}

func TestTextsOfNames(t *testing.T) {
	v, con, a := types.Var, types.Con, types.Var(0)
	long := "A" + strings.Repeat("x_9", 9) + "Zz"
	for _, of := range []struct {
		y    api.Type
		want string
	}{
		{con("Int"), "Int"}, {con("A"), "A"}, {con("X_1"), "X_1"}, {con(long), long},
		{con(long, con(long)), long + " " + long},
		{con("L", a), "L a"}, {con("L", con("Int")), "L Int"}, {con("L", v(27)), "L b1"}, {con("T", a, v(1)), "T a b"},
		{con("T", con("Int"), a, con("Bool")), "T Int a Bool"}, {con("L", con("L", a)), "L (L a)"},
		{con("L", con("L", con("L", con("Int")))), "L (L (L Int))"}, {con("L", types.To(a, v(1))), "L (a -> b)"},
		{con("L", types.Tuple(a, v(1))), "L (a, b)"}, {con("L", con("T", a, v(1))), "L (T a b)"},
		{con("T", con("L", a), a, con("L", v(1))), "T (L a) a (L b)"}, {con("T", a, con("L", a)), "T a (L a)"},
		{con("T", types.To(a, a), types.Tuple(a, a), con("L", a), a, con("Int")), "T (a -> a) (a, a) (L a) a Int"},
		{con("T", con("Int"), a, con("L", a), types.Tuple(a, a), types.To(a, a)), "T Int a (L a) (a, a) (a -> a)"},
		{con("T", types.Tuple(a, a), types.Tuple(v(1), a)), "T (a, a) (b, a)"},
		{con("T", types.To(a, types.To(a, a)), types.To(types.To(a, a), a)), "T (a -> a -> a) ((a -> a) -> a)"},
		{con("Int", a), "Int a"}, {con("Bool", con("Bool", a), con("Bool")), "Bool (Bool a) Bool"},
	} {
		checkText(t, of.y, of.want)
	}
	for n := range 21 {
		checkText(t, con("T", types.Vars(lists.Of(n, 1)...)...), "T"+strings.Repeat(" b", n))
	}
}

func TestTextsOfTuples(t *testing.T) {
	con, a, b := types.Con, types.Var(0), types.Var(1)
	pair := types.Tuple(a, b)
	for _, of := range []struct {
		y    api.Type
		want string
	}{
		{pair, "(a, b)"}, {types.Tuple(con("Int"), a, con("Bool")), "(Int, a, Bool)"},
		{types.Tuple(pair, a), "((a, b), a)"},
		{types.Tuple(a, pair), "(a, (a, b))"}, {types.Tuple(pair, pair), "((a, b), (a, b))"},
		{types.Tuple(types.Tuple(pair, a), b), "(((a, b), a), b)"}, {types.Tuple(con("L", a), b), "(L a, b)"},
		{types.Tuple(a, con("L", con("L", b))), "(a, L (L b))"}, {types.Tuple(con("T", pair, a), pair),
			"(T (a, b) a, (a, b))"},
		{types.Tuple(types.To(a, b), a), "(a -> b, a)"}, {types.Tuple(a, types.To(a, b)), "(a, a -> b)"},
		{types.Tuple(types.To(a, types.To(b, a)), types.To(types.To(a, b), a)), "(a -> b -> a, (a -> b) -> a)"},
		{types.Tuple(types.To(pair, a), con("L", types.To(a, b)), con("Int")), "((a, b) -> a, L (a -> b), Int)"},
	} {
		checkText(t, of.y, of.want)
	}
	for n := 2; n <= 8; n++ {
		checkText(t, types.Tuple(types.Vars(lists.Of(n, 2)...)...), "("+strings.Repeat("c, ", n-1)+"c)")
	}
}

func TestTextsOfFunctions(t *testing.T) {
	con, to, a, b := types.Con, types.To, types.Var(0), types.Var(1)
	pair := types.Tuple(a, b)
	for _, of := range []struct {
		y    api.Type
		want string
	}{
		{to(a, b), "a -> b"}, {to(con("Int"), con("Bool")), "Int -> Bool"}, {to(a, to(b, a)), "a -> b -> a"},
		{to(to(a, b), a), "(a -> b) -> a"}, {to(to(a, b), to(b, a)), "(a -> b) -> b -> a"},
		{to(to(to(a, b), a), b), "((a -> b) -> a) -> b"}, {to(a, to(b, to(a, b))), "a -> b -> a -> b"},
		{to(to(a, to(b, a)), b), "(a -> b -> a) -> b"}, {to(a, to(to(b, a), b)), "a -> (b -> a) -> b"},
		{to(to(to(a, b), to(a, b)), to(to(a, b), b)), "((a -> b) -> a -> b) -> (a -> b) -> b"},
		{to(con("L", a), con("L", b)), "L a -> L b"}, {to(con("L", con("L", a)), con("T", a, b)), "L (L a) -> T a b"},
		{to(con("L", to(a, b)), con("L", to(b, a))), "L (a -> b) -> L (b -> a)"}, {to(pair, pair), "(a, b) -> (a, b)"},
		{to(types.Tuple(to(a, b), a), types.Tuple(a, to(a, b))), "(a -> b, a) -> (a, a -> b)"},
		{to(pair, to(to(a, a), con("Int"))), "(a, b) -> (a -> a) -> Int"},
		{to(to(pair, a), pair), "((a, b) -> a) -> (a, b)"},
	} {
		checkText(t, of.y, of.want)
	}
}

// TestTextsOfKids has what is of each sort as each Kid of what is of each sort.
func TestTextsOfKids(t *testing.T) {
	alone := []string{"a", "b1", "Int", "L a", "T a b", "(a, b)", "(L a, a -> b)", "a -> b", "L a -> (a, b)"}
	kid := []string{"a", "b1", "Int", "(L a)", "(T a b)", "(a, b)", "(L a, a -> b)", "(a -> b)", "(L a -> (a, b))"}
	left := []string{"a", "b1", "Int", "L a", "T a b", "(a, b)", "(L a, a -> b)", "(a -> b)", "(L a -> (a, b))"}
	for i := range alone {
		one := types.Of(alone[i])
		checkText(t, one, alone[i])
		for j := range alone {
			other := types.Of(alone[j])
			checkText(t, types.Con("T", one, other), "T "+kid[i]+" "+kid[j])
			checkText(t, types.Con("T", one, types.Var(2), other), "T "+kid[i]+" c "+kid[j])
			checkText(t, types.Tuple(one, other), "("+alone[i]+", "+alone[j]+")")
			checkText(t, types.Tuple(one, types.Con("Int"), other), "("+alone[i]+", Int, "+alone[j]+")")
			checkText(t, types.To(one, other), left[i]+" -> "+alone[j])
			checkText(t, types.Con("L", types.To(one, other)), "L ("+left[i]+" -> "+alone[j]+")")
			checkText(t, types.To(types.To(one, other), types.Var(2)), "("+left[i]+" -> "+alone[j]+") -> c")
			checkText(t, types.To(types.Var(2), types.To(one, other)), "c -> "+left[i]+" -> "+alone[j])
			checkText(t, types.Con("L", types.Con("T", one, other)), "L (T "+kid[i]+" "+kid[j]+")")
			checkText(t, types.Con("L", types.Tuple(one, other)), "L ("+alone[i]+", "+alone[j]+")")
		}
	}
}

func TestTextsOfDeepTypes(t *testing.T) {
	for _, n := range []int{1, 2, 30, 59, 98, 99} {
		left, right, tuple := types.Var(0), types.Var(0), types.Var(0)
		for range n {
			left, right = types.To(left, types.Var(1)), types.To(types.Var(1), right)
			tuple = types.Tuple(tuple, types.Con("Int"))
		}
		checkText(t, types.Nest(n, types.Var(3)), strings.Repeat("L (", n-1)+"L d"+strings.Repeat(")", n-1))
		checkText(t, left, strings.Repeat("(", n-1)+"a -> b"+strings.Repeat(") -> b", n-1))
		checkText(t, right, strings.Repeat("b -> ", n)+"a")
		checkText(t, tuple, strings.Repeat("(", n)+"a"+strings.Repeat(", Int)", n))
	}
	const n = 1 << 14
	y, want := tree(types.Vars(lists.Of(n, 0)...)), "a"
	for len(want) < len(Text(y)) {
		want = "(" + want + ", " + want + ")"
	}
	checkText(t, y, want)
}
