package data

import (
	"fmt"
	"math"
	"slices"
	"strings"
	"testing"

	"warp/api"
)

// Promise 12.1: Check.

func TestNothing(t *testing.T) {
	checkWrong(t, nil, none)
	checkWrong(t, []api.Data{}, none)
	checkText(t, "")
	checkText(t, "let f = x;")
}

func TestTexts(t *testing.T) {
	for _, src := range []string{
		// What may be.
		"data A = X;", "data A = A;", "data A = Int | Bool;", "data A a = A a; data B = B;",
		"data A = B; data B = A;", "data A = X B; data B = Y A;", "data L a = N | C a (L a);",
		"data A = X Int Bool (Int -> Bool) (Int, Bool);", "data A a b c d e f g h i = X i a (A a b c d e f g h i);",
		"data A a = X (A (A (A a))) (A Int) (A (A Bool -> a, a));", "data A = X A A A | Y A A | Z A | W;",
		"data A a = X ((a -> a) -> a -> a); data B a = Y (A a -> A a); data C c d = Z (A d, B c);",
		"data A = X (Int, Int, Int, Int, Int, Int, Int, Int);",
		// The name of a Data.
		"data #Int = X;", "data #Bool = X;", "data #Int a b = X;", "data A = X; data B = Y; data #Bool a = Z;",
		"data A = X; data #Int = Y; data B = Z;", "data A = X; data #A = Y;", "data A a = X; data #A b = Y;",
		"data A = X; data B = Y; data #A = Z;", "data A = X; data B = Y; data #B = Z;",
		"data A = X; data #A = Y; data A = Z;", "data A = X; data B = Y; data #B = Z; data A = W;",
		// Its Vars.
		"data #A a a = X;", "data #A a b a = X;", "data #A a b b = X;", "data #A a b c d a = X;",
		"data #A a b c d d = X;", "data #A a a a = X;", "data A a = X; data B a = Y; data C a = Z;",
		"data A a = X; data #B b b = Y; data C a = Z;", "data A a = X; data B a = Y; data #C a a = Z;",
		// The names of Cons.
		"data A = X | #X;", "data A = X | Y | #X;", "data A = X | Y | #Y;", "data A = X | #X | X;",
		"data A = X; data B = #X;", "data A = X | Y; data B = Z | #Y;", "data A = X; data B = Y; data C = #X | W;",
		"data A = X; data B = Y; data C = Z | W | #X;", "data A = X | Y; data B = Y2 | #X | Y;",
		// Those that there are not.
		"data A = #X B;", "data A = #X a;", "data A = X Int | #Y int;", "data A = #X X;", "data A = X A | #Y X;",
		"data A a = X a | #Y b;", "data A a = X; data B b = #Y a;", "data A b = X b; data B = #Y b;",
		"data A a = X (A a) | #Y (A b);", "data A = X (Int -> A) | #Y (Int -> (A, (A, Q)));",
		// How many kids they have.
		"data A = #X (A A);", "data A a = #X A;", "data A a b = X (A a b) | #Y (A a);",
		"data A a b = X (A a b) | #Y (A a b a);", "data A = #X (Int Int);", "data A = #X (Bool A);",
		"data A a = #X (Int a); data B = Y;", "data A a = X (A Int) | #Y (A (Int a));",
		"data A = #X B; data B b = Y;", "data A = X (B A); data B b = Y (B b) | #Z B;",
		// Of several Datas of one name the first.
		"data A = X B; data B = Y; data #B b = Z;", "data A = #X (B A); data B = Y; data B b = Z;",
		"data A = X (B A); data B b = Y; data #B = Z;", "data A = #X B; data B b = Y; data B = Z;",
		"data A = X (B A); data B b = Y; data #B = Z; data B b c = W;",
		"data A = #X (B A A); data B b = Y; data B = Z; data B b c = W;",
		"data A = X A; data #A a = Y;", "data A = #X (A A); data A a = Y;",
		// An Int, a Bool that is declared does not count.
		"data A = #X (Int A); data Int a = Y;", "data A = X Int; data #Int a = Y;", "data A = X Bool; data #Bool a = Y;",
		"data A = #X (Bool A); data Bool a = Y; data Bool = Z;",
	} {
		checkText(t, src)
	}
}

// wrongTypes tells types that may not be in a Data with variables a, b where there is a Data L with one.
func wrongTypes() []api.Type {
	a := variable(0)
	return []api.Type{variable(2), variable(3), variable(-1), {Kind: api.YVar, N: -1, Name: "c"},
		{Kind: api.YVar, N: -1, Name: "a"}, variable(math.MinInt), variable(math.MaxInt), variable(1 << 32),
		{}, {Kind: 3}, {Kind: -1}, {Kind: 0, Name: "Int"}, {Kind: 3, Name: "L", Kids: []api.Type{a}},
		typ(""), typ("Q"), typ("a"), typ("int"), typ("Int "), typ("Q", a), typ("C0"),
		typ("Int", a), typ("Bool", a, a), typ("L"), typ("L", a, a), typ("L", a, a, a),
		typ("->"), typ("->", a), typ("->", a, a, a), typ(","), typ(",", a), typ(",", kids(api.MaxTuple+1)...),
		typ(",", kids(20)...), typ("-"), typ(">", a, a), typ(",,", a, a)}
}

// rightTypes tells types that may be there.
func rightTypes() []api.Type {
	a, b := variable(0), variable(1)
	l := []api.Type{a, b, typ("Int"), typ("Bool"), typ("L", a), typ("L", typ("L", b)), typ("->", a, b),
		{Kind: api.YVar, N: 1, Name: "q"}, {Kind: api.YCon, Name: "L", N: -7, Kids: []api.Type{b}}}
	for n := 2; n <= api.MaxTuple; n++ {
		l = append(l, typ(",", kids(n)...))
	}
	return l
}

// within tells types that have y in them, or are it, each at another place.
func within(y api.Type) []api.Type {
	a, b := variable(0), variable(1)
	deep := y
	for range 100 {
		deep = typ("->", a, typ("L", typ(",", a, deep, b)))
	}
	return []api.Type{y, typ("L", y), typ("->", y, a), typ("->", a, y), typ(",", y, a), typ(",", a, y),
		typ(",", a, b, a, b, a, b, a, y), typ(",", a, b, y, b, a), typ("L", typ("L", typ("L", y))),
		typ("->", a, typ("->", b, y)), typ("->", typ("->", y, a), b), typ(",", typ(",", a, typ("L", y)), a), deep}
}

// threes tells four Datas: three with variables a, b, and three Cons with three Args each, and L behind them.
func threes() []api.Data {
	var l []api.Data
	for d := range 3 {
		x := declared(fmt.Sprint("D", d), "a b", fmt.Sprintf("C%d C%d C%d", 3*d, 3*d+1, 3*d+2))
		for c := range x.Cons {
			x.Cons[c].Args = []api.Type{variable(0), typ("->", variable(1), typ("Int")), typ("Bool")}
		}
		l = append(l, x)
	}
	return append(l, declared("L", "a", "N"))
}

// TestEachPlaceOfAType puts types in each Data, Con and Arg, and within others there.
func TestEachPlaceOfAType(t *testing.T) {
	for kind, types := range [][]api.Type{wrongTypes(), rightTypes()} {
		for _, y := range types {
			for i, z := range within(y) {
				for _, p := range places(threes()[:3]) {
					if p.con < 0 {
						continue
					}
					arg := (i + p.data + p.con) % 3
					l := threes()
					l[p.data].Cons[p.con].Args[arg] = z
					want := p
					if kind == 1 {
						want = none
					}
					putAts(l, 7, 3)
					checkOnce(t, l, want)
				}
			}
		}
	}
}

func TestEachArg(t *testing.T) {
	for _, y := range wrongTypes() {
		for n := 1; n < 6; n++ {
			for i := range n {
				args := kids(n)
				args[i] = y
				checkWrong(t, []api.Data{one("D", "a b", args...), declared("L", "a", "N")}, place{0, 0})
			}
		}
	}
}

func TestKindsOfTypesThatThereAreNot(t *testing.T) {
	for _, kind := range []int{0, 3, 4, -1, -2, 77, 256 + api.YVar, 1<<32 + api.YVar, 1<<32 + api.YCon, math.MinInt,
		math.MaxInt} {
		for _, y := range rightTypes() {
			y.Kind = kind
			checkWrong(t, []api.Data{one("D", "a b", y), declared("L", "a", "N")}, place{0, 0})
		}
	}
}

func TestVariables(t *testing.T) {
	for vars := range 6 {
		names := strings.Join(strings.Split("abcdef"[:vars], ""), " ")
		for _, name := range []string{"", "a", "f", "q", "Int", "->"} {
			for _, n := range []int{math.MinInt, -1 << 32, -7, -2, -1, 0, 1, 2, 3, 4, 5, 6, 7, 1 << 32, math.MaxInt} {
				want := place{1, 0}
				if n >= 0 && n < vars {
					want = none
				}
				y := api.Type{Kind: api.YVar, N: n, Name: name}
				// Variables of the Datas ahead and behind are others.
				checkWrong(t, []api.Data{declared("B", "g h i j k l m", "X"), one("D", names, y),
					declared("C", "a b c d e f g h", "Y")}, want)
				checkWrong(t, []api.Data{declared("B", "g", "X"), one("D", names, typ("B", y))}, want)
			}
		}
	}
}

// Kids of a variable stand in the Arg, too.
func TestKidsOfVariables(t *testing.T) {
	with := func(kids ...api.Type) api.Type { return api.Type{Kind: api.YVar, Kids: kids} }
	checkWrong(t, []api.Data{one("D", "a", with(variable(0), typ("Int")))}, none)
	checkWrong(t, []api.Data{one("D", "a", with(variable(0), variable(1)))}, place{0, 0})
	checkWrong(t, []api.Data{one("D", "a", with(variable(0), typ("Q")))}, place{0, 0})
	checkWrong(t, []api.Data{one("D", "", with())}, place{0, 0})
}

// TestEachShape holds each name with each number of kids against what stands in the chapter.
func TestEachShape(t *testing.T) {
	for _, name := range []string{"Int", "Bool", "->", ",", "", "A", "B", "Q", "E", "int", "C", "-"} {
		for n := range 30 {
			may := false
			switch name {
			case "Int", "Bool", "A":
				may = n == 0
			case "->", "B":
				may = n == 2
			case ",":
				may = n >= 2 && n <= 8
			case "E":
				may = n == 26
			}
			want := place{1, 0}
			if may {
				want = none
			}
			y := typ(name, kids(n)...)
			l := []api.Data{declared("A", "", "X"), one("D", "", y), declared("B", "a b", "Y"),
				declared("E", strings.Join(strings.Split("abcdefghijklmnopqrstuvwxyz", ""), " "), "Z")}
			checkWrong(t, l, want)
			l[1].Cons[0].Args = []api.Type{typ("->", typ("B", typ("Int"), y), typ("Int"))}
			checkWrong(t, l, want)
		}
	}
}

// The names of signs, and no name, are names of Datas, Cons and variables as others are.
func TestNamesThatAreNone(t *testing.T) {
	d := func(name, vars, con string, args ...api.Type) api.Data {
		x := one(name, vars, args...)
		x.Cons[0].Name = con
		return x
	}
	checkWrong(t, []api.Data{d("", "", "", typ(""))}, none)
	checkWrong(t, []api.Data{d("", "", ""), d("", "", "X")}, place{1, -1})
	checkWrong(t, []api.Data{d("", "", ""), d("A", "", "")}, place{1, 0})
	checkWrong(t, []api.Data{d("A", "", "X", typ(""))}, place{0, 0})
	checkWrong(t, []api.Data{d("", "a", "X", typ("", typ("Int")))}, none)
	checkWrong(t, []api.Data{d("", "a", "X", typ(""))}, place{0, 0})
	x := declared("A", "", "X")
	x.Vars = []string{"", "a", ""}
	checkWrong(t, []api.Data{x}, place{0, -1})
	x.Vars = []string{"", "a", " "}
	checkWrong(t, []api.Data{x}, none)
	// A Data named as a sign gives the sign no other kids.
	checkWrong(t, []api.Data{d("->", "a", ","), d(",", "", "->")}, none)
	checkWrong(t, []api.Data{d("->", "a", "X", typ("->", kids(1)...))}, place{0, 0})
	checkWrong(t, []api.Data{d("->", "a", "X", typ("->", kids(2)...)), d(",", "", "Y", typ(",", kids(8)...))}, none)
	checkWrong(t, []api.Data{d("A", "", "X"), d(",", "", "Y", typ(","))}, place{1, 0})
	checkWrong(t, []api.Data{d("->", "", "X"), d("->", "", "Y")}, place{1, -1})
	checkWrong(t, []api.Data{d(",", "", "X"), d("A", "", "Z"), d(",", "a b c", "Y")}, place{2, -1})
}

// A Data, its variables and its Cons may have one name.
func TestNamesOfOtherThings(t *testing.T) {
	checkWrong(t, []api.Data{one("A", "A", variable(0)), one("B", "A B", typ("A", variable(1)))}, none)
	checkWrong(t, []api.Data{declared("A", "Int Bool B", "B Int Bool A"), declared("B", "X Y", "X Y a")}, none)
	checkWrong(t, []api.Data{declared("X", "A", "A"), declared("A", "X", "X")}, none)
	// A variable's, a Con's name is none of a type.
	checkWrong(t, []api.Data{declared("A", "X", "Y"), one("B", "X", typ("X"))}, place{1, 0})
	checkWrong(t, []api.Data{declared("A", "X", "Y"), one("B", "X", typ("Y"))}, place{1, 0})
}

// Names are held against one another byte by byte.
func TestNamesByByte(t *testing.T) {
	for _, name := range []string{"int", "INT", "Int ", " Int", "Int\x00", "In", "Integer", "bool", "Boo", "Bool\n"} {
		checkWrong(t, []api.Data{declared(name, "", "X")}, none)
		checkWrong(t, []api.Data{one("A", "", typ(name))}, place{0, 0})
		checkWrong(t, []api.Data{one("A", "", typ(name)), declared(name, "", "X")}, none)
		checkWrong(t, []api.Data{declared(name, "", "X"), declared(name, "", "Y")}, place{1, -1})
	}
	for _, pair := range [][2]string{{"a", "A"}, {"é", "e\u0301"}, {"a", "a\x00"}, {"\xff", "\xfe"}, {"x", "x "}} {
		x := declared("D", "", "")
		x.Vars, x.Cons = pair[:], []api.Con{{Name: pair[0]}, {Name: pair[1]}}
		checkWrong(t, []api.Data{x, declared(pair[0], "", "Y"), declared(pair[1], "", "Z")}, none)
		x.Vars = []string{pair[0], pair[1], pair[0]}
		checkWrong(t, []api.Data{x}, place{0, -1})
	}
}

func TestTwoVarsThatAreOne(t *testing.T) {
	for n := range 8 {
		for i := range n {
			for j := range i {
				l := threes()
				x := declared("E", strings.Join(strings.Split("abcdefgh"[:n], ""), " "), "F")
				l = slices.Insert(l, (i+j)%4, x)
				checkWrong(t, l, none)
				x.Vars[i] = x.Vars[j]
				checkWrong(t, l, place{(i + j) % 4, -1})
			}
		}
	}
}

func TestConsOfOneName(t *testing.T) {
	all := slices.DeleteFunc(places(threes()), func(p place) bool { return p.con < 0 })
	for i, p := range all {
		for _, q := range all[:i] {
			l := threes()
			l[p.data].Cons[p.con].Name = l[q.data].Cons[q.con].Name
			checkWrong(t, l, p)
		}
		l := threes()
		for _, x := range l {
			l[p.data].Cons[p.con].Name = x.Name
			checkWrong(t, l, none)
		}
		for _, name := range []string{"Int", "Bool", "->", ",", "", "a"} {
			l[p.data].Cons[p.con].Name = name
			checkWrong(t, l, none)
		}
	}
}

func TestDatasOfOneName(t *testing.T) {
	for i := range 4 {
		for _, name := range []string{"Int", "Bool"} {
			l := threes()
			l[i].Name = name
			checkWrong(t, l, place{i, -1})
		}
		for j := range i {
			l := threes()
			l[i].Name = l[j].Name
			checkWrong(t, l, place{i, -1})
			for k := range j {
				l := threes()
				l[i].Name, l[k].Name = l[j].Name, l[j].Name
				checkWrong(t, l, place{j, -1})
			}
		}
	}
}

// TestTheFirstOfAName makes a Con, in each of three places, that has a type of a Data of which there are several, with
// other numbers of variables each.
func TestTheFirstOfAName(t *testing.T) {
	vars := []string{"", "a", "a b", "a b c"}
	for first := range vars {
		for second := range vars {
			for n := range 5 {
				for at := range 3 {
					l := []api.Data{declared("B", vars[first], "X"), declared("B", vars[second], "Y")}
					l = slices.Insert(l, at, one("A", "", typ("B", kids(n)...)))
					// The second B may not be: what stands ahead of it counts first.
					want := place{2, -1}
					if at == 2 {
						want = place{1, -1}
					} else if n != first {
						want = place{at, 0}
					}
					checkWrong(t, l, want)
				}
			}
		}
	}
}

// Two things that are wrong.

// fault is something wrong, and where.
type fault struct {
	at   place
	make func(l []api.Data)
}

// faults tells what may be wrong in threes, at each place.
func faults() []fault {
	var l []fault
	for _, p := range places(threes()[:3]) {
		put := func(f func(d *api.Data)) {
			l = append(l, fault{p, func(l []api.Data) { f(&l[p.data]) }})
		}
		if p.con < 0 {
			put(func(d *api.Data) { d.Name = "Int" })
			put(func(d *api.Data) { d.Name = "Bool" })
			put(func(d *api.Data) { d.Vars = []string{"a", "b", "a"} })
			if p.data > 0 {
				l = append(l, fault{p, func(l []api.Data) { l[p.data].Name = l[p.data-1].Name }})
			}
			continue
		}
		put(func(d *api.Data) { d.Cons[p.con].Args[0] = variable(-1) })
		put(func(d *api.Data) { d.Cons[p.con].Args[2] = typ("Q") })
		put(func(d *api.Data) { d.Cons[p.con].Args[1] = typ("->", typ("L"), variable(0)) })
		if p.data+p.con > 0 {
			put(func(d *api.Data) { d.Cons[p.con].Name = "C0" })
		}
	}
	return l
}

// ahead tells which of two places is the first in the order of a list: a Data ahead of its Cons.
func ahead(p, q place) place {
	if p.data < q.data || p.data == q.data && p.con < q.con {
		return p
	}
	return q
}

func TestTwoFaults(t *testing.T) {
	for _, one := range faults() {
		l := threes()
		one.make(l)
		checkWrong(t, l, one.at)
		for _, other := range faults() {
			l := threes()
			one.make(l)
			other.make(l)
			checkWrong(t, l, ahead(one.at, other.at))
		}
	}
}

func TestAllFaults(t *testing.T) {
	all := faults()
	for i := range all {
		l := threes()
		for _, f := range all[i:] {
			f.make(l)
		}
		checkWrong(t, l, all[i].at)
	}
}

// A place that is 0, below 0, or any other number is told as it is.
func TestAnyAt(t *testing.T) {
	for _, at := range []int{0, 1, -1, 77, 1 << 40, math.MinInt, math.MaxInt} {
		for _, f := range faults() {
			l := threes()
			f.make(l)
			for _, other := range []int{0, -5, 5, math.MinInt, math.MaxInt} {
				putAts(l, other, 0)
				*atOf(l, f.at) = at
				checkOnce(t, l, f.at)
			}
		}
		l := threes()
		putAts(l, at, 0)
		checkOnce(t, l, none)
	}
}

func TestDatasWithoutCons(t *testing.T) {
	checkWrong(t, []api.Data{{Name: "A"}}, none)
	checkWrong(t, []api.Data{{}}, none)
	checkWrong(t, []api.Data{{Name: "A"}, {Name: "B", Vars: []string{"a"}}}, none)
	checkWrong(t, []api.Data{{Name: "A"}, {Name: "B"}, {Name: "A"}}, place{2, -1})
	checkWrong(t, []api.Data{{Name: "A", Vars: []string{"a", "a"}}}, place{0, -1})
	checkWrong(t, []api.Data{{Name: "A"}, one("B", "", typ("A"))}, none)
	checkWrong(t, []api.Data{one("B", "", typ("A")), {Name: "A", Cons: []api.Con{}}}, none)
}
