package data

import (
	"math"
	"strings"
	"testing"

	"warp/api"
	"warp/plays"
	"warp/progs"
)

// Promise 12.1: Con and Type.

func checkCon(t *testing.T, l []api.Data, name string, d, c int) {
	t.Helper()
	was := told(l)
	for range 2 {
		if gotD, gotC := Con(l, name); gotD != d || gotC != c {
			t.Errorf("%q in %s: %d, %d, want %d, %d", name, told(l), gotD, gotC, d, c)
		}
	}
	if told(l) != was {
		t.Errorf("%s was %s", told(l), was)
	}
}

func TestCon(t *testing.T) {
	l := parsed(t, "data A a = X | Y a (A a); data B = Z B | X2 | W; data C b = V;")
	for i, row := range [][]string{{"X", "Y"}, {"Z", "X2", "W"}, {"V"}} {
		for j, name := range row {
			checkCon(t, l, name, i, j)
		}
	}
	for _, name := range []string{"", "A", "B", "C", "a", "b", "x", "X ", " X", "X\x00", "Q", "Int", "Bool", "->", ",",
		strings.Repeat("X", 1000)} {
		checkCon(t, l, name, -1, -1)
		checkCon(t, nil, name, -1, -1)
		checkCon(t, []api.Data{}, name, -1, -1)
		checkCon(t, []api.Data{{Name: name}, {Name: name, Vars: []string{name}}}, name, -1, -1)
	}
}

func TestTheFirstCon(t *testing.T) {
	l := []api.Data{declared("X", "X", ""), declared("A", "", "Y Z"), declared("A", "", "Z X Y X"), declared("B", "", "X W"),
		declared("C", "", "W X Y Z V")}
	for name, p := range map[string]place{"X": {2, 1}, "Y": {1, 0}, "Z": {1, 1}, "W": {3, 1}, "V": {4, 4}, "A": none} {
		checkCon(t, l, name, p.data, p.con)
	}
	checkCon(t, l, "", -1, -1)
	l[4].Cons[1].Name, l[4].Cons[3].Name = "", ""
	checkCon(t, l, "", 4, 1)
	l[2].Cons[3].Name = ""
	checkCon(t, l, "", 2, 3)
}

// toldTypes tells all that is in types.
func toldTypes(l ...api.Type) string {
	return progs.Told(api.Program{Datas: []api.Data{{Cons: []api.Con{{Args: l}}}}})
}

// checkType checks that Type tells what stands in the Con and the Data of each place, and nothing of other places.
func checkType(t *testing.T, l []api.Data) {
	t.Helper()
	was := progs.Told(api.Program{Datas: l})
	for _, p := range places(l) {
		if p.con < 0 {
			continue
		}
		d := l[p.data]
		want := api.Type{Kind: api.YCon, Name: d.Name}
		for n := range len(d.Vars) {
			want.Kids = append(want.Kids, variable(n))
		}
		for range 2 {
			args, of := Type(l, p.data, p.con)
			if toldTypes(args...) != toldTypes(d.Cons[p.con].Args...) || toldTypes(of) != toldTypes(want) {
				t.Errorf("%v of %s: %v, %v", p, told(l), args, of)
			}
		}
	}
	for _, p := range outside(l) {
		if args, of := Type(l, p.data, p.con); len(args) != 0 || toldTypes(of) != toldTypes(api.Type{}) {
			t.Errorf("%v of %s: %v, %v", p, told(l), args, of)
		}
	}
	if progs.Told(api.Program{Datas: l}) != was {
		t.Errorf("%s: it was another", told(l))
	}
}

// outside tells places that l has not.
func outside(l []api.Data) []place {
	n := len(l)
	var all []place
	for _, d := range []int{-1, -2, -n, n, n + 1, 1 << 32, math.MinInt, math.MaxInt} {
		if d < 0 || d >= n {
			all = append(all, place{d, 0}, place{d, -1}, place{d, d})
		}
	}
	for d, x := range l {
		n := len(x.Cons)
		all = append(all, place{d, -1}, place{d, -1 - n}, place{d, n}, place{d, n + 1}, place{d, 1 << 32},
			place{d, math.MinInt}, place{d, math.MaxInt})
		if n > 0 {
			all = append(all, place{d, -n})
		}
	}
	return all
}

func TestTypes(t *testing.T) {
	checkType(t, nil)
	checkType(t, []api.Data{})
	checkType(t, []api.Data{{}, {Name: "A", Vars: []string{"a"}}})
	checkType(t, []api.Data{{Cons: []api.Con{{}}}})
	checkType(t, parsed(t, `data L a = N | C a (L a); data P a b = P (a, b) b | Q; data Z = W;
		data F a b c d e f g h i = F ((i -> h) -> g) (L (P f e)) | G d | H (c, b, a, Int, Bool, Z);`))
	checkType(t, threes())
	checkType(t, []api.Data{one("D", "a b", rightTypes()...), one("E", "", wrongTypes()...)})
	for _, y := range wrongTypes() {
		checkType(t, []api.Data{one("D", "a b", within(y)...)})
	}
	// A Data's name, its variables' names may be any.
	checkType(t, []api.Data{one("Int", "a a a", variable(2)), one("", "A"), one("Int", ""), one("->", "a", typ("->"))})
}

func TestTypeByHand(t *testing.T) {
	l := parsed(t, "data L a b = N | C b (L a Int -> c); data Z = W;")
	args, of := Type(l, 0, 1)
	if len(args) != 2 || args[0].Kind != api.YVar || args[0].N != 1 || args[1].Name != "->" || len(args[1].Kids) != 2 ||
		args[1].Kids[0].Kids[1].Name != "Int" || args[1].Kids[1].N != -1 || args[1].Kids[1].Name != "c" {
		t.Errorf("%+v", args)
	}
	if of.Kind != api.YCon || of.Name != "L" || of.N != 0 || len(of.Kids) != 2 || of.Kids[0].Kind != api.YVar ||
		of.Kids[0].N != 0 || of.Kids[0].Name != "" || of.Kids[1].N != 1 || len(of.Kids[1].Kids) != 0 {
		t.Errorf("%+v", of)
	}
	if args, of := Type(l, 1, 0); len(args) != 0 || of.Kind != api.YCon || of.Name != "Z" || len(of.Kids) != 0 {
		t.Errorf("%+v, %+v", args, of)
	}
}

// Of what may not be Con and Type are told, too.
func TestDrawnConsAndTypes(t *testing.T) {
	next := plays.Below(122)
	for i := range 3000 {
		l := changed(next, i%4)
		checkType(t, l)
		for _, name := range append(someNames(), "", "none") {
			want := none
			for _, p := range places(l) {
				if p.con >= 0 && l[p.data].Cons[p.con].Name == name && want == none {
					want = p
				}
			}
			checkCon(t, l, name, want.data, want.con)
		}
	}
}
