package data

import (
	"fmt"
	"slices"
	"strings"
	"testing"
	"unsafe"

	"warp/api"
	"warp/lists"
	"warp/plays"
	"warp/progs"
)

// R3: what is told is new memory; what is handed in is neither changed nor kept.

// answer tells what Type tells of a place, as a program: its lists are those of the answer.
func answer(l []api.Data, p place) api.Program {
	args, of := Type(l, p.data, p.con)
	return api.Program{Datas: []api.Data{{Cons: []api.Con{{Args: args}, {Args: []api.Type{of}}}}}}
}

// answers tells what Type tells of all places.
func answers(l []api.Data) []api.Program {
	var all []api.Program
	for _, p := range places(l) {
		all = append(all, answer(l, p))
	}
	return all
}

func toldAll(l []api.Program) string {
	var w strings.Builder
	for _, p := range l {
		w.WriteString(progs.Told(p))
	}
	return w.String()
}

func TestNoTwoListsShareMemory(t *testing.T) {
	next := plays.Below(125)
	for i := range 500 {
		l := changed(next, i%3)
		in := api.Program{Datas: l}
		if progs.Shared(in) {
			t.Fatalf("the test itself is wrong: %s", told(l))
		}
		if progs.Shared(slices.Concat([]api.Program{in}, answers(l), answers(l))...) {
			t.Fatalf("%s: two lists share memory", told(l))
		}
	}
}

func TestWritingChangesNothing(t *testing.T) {
	next := plays.Below(126)
	for i := range 500 {
		l := changed(next, i%3)
		in := api.Program{Datas: l}
		was, one, other := progs.Told(in), answers(l), answers(l)
		want := toldAll(other)
		for _, p := range one {
			progs.Scribble(p)
		}
		if progs.Told(in) != was || toldAll(other) != want || toldAll(answers(l)) != want {
			t.Fatalf("%s: writing into what is told changed something", was)
		}
		progs.Scribble(in)
		if toldAll(other) != want {
			t.Fatalf("%s: writing into what was handed in changed what is told", was)
		}
	}
}

// TestListsThatShareMemory hands in Args, Kids and Vars of one memory, with spare room behind.
func TestListsThatShareMemory(t *testing.T) {
	pair := lists.Roomy([]api.Type{variable(0), variable(1)}, variable(9))
	vars := lists.Roomy([]string{"a", "b", "c"}, "spare")
	args := lists.Roomy([]api.Type{typ("->", pair...), typ(",", pair...), typ("L", pair[:1]...)}, typ("Q"))
	cons := lists.Roomy([]api.Con{{Name: "X", Args: args}, {Name: "Y", Args: args[:2]}, {Name: "Z", Args: pair}},
		api.Con{Name: "X"})
	l := lists.Roomy([]api.Data{{Name: "D", Vars: vars, Cons: cons}, {Name: "L", Vars: vars[:1]},
		{Name: "E", Vars: vars[1:], Cons: []api.Con{{Name: "V", Args: args[1:]}}}}, api.Data{Name: "L"})
	checkWrong(t, l, none)
	checkType(t, l)
	all := answers(l)
	if progs.Shared(append(all, answers(l)...)...) {
		t.Error("two lists share memory")
	}
	want := toldAll(all)
	progs.Scribble(api.Program{Datas: l})
	if toldAll(all) != want {
		t.Error("what is told became another")
	}
}

func TestTextsAreNoPieces(t *testing.T) {
	src := strings.Clone("Data a Con L Int q")
	l := []api.Data{{Name: src[:4], Vars: []string{src[5:6]}, Cons: []api.Con{{Name: src[7:10], Args: []api.Type{
		typ(src[11:12], typ(src[13:16])), {Kind: api.YVar, N: -1, Name: src[17:18]}}}}}}
	texts := progs.Texts(answer(l, place{0, 0}))
	slices.Sort(texts)
	if s := strings.Join(texts, ""); s != "DataIntLq" {
		t.Errorf("the test itself is wrong: %q", s)
	}
	low := uintptr(unsafe.Pointer(unsafe.StringData(src)))
	for _, s := range texts {
		at := uintptr(unsafe.Pointer(unsafe.StringData(s)))
		if s != "" && at >= low && at < low+uintptr(len(src)) {
			t.Errorf("%q is a piece of what was handed in", s)
		}
	}
}

// R1: the same call tells the same; every call ends, and none panics.

func TestTheSameAgain(t *testing.T) {
	next := plays.Below(127)
	for i := range 500 {
		l := changed(next, i%3)
		e, at := Check(l)
		d, c := Con(l, "A")
		want := toldAll(answers(l))
		for range 3 {
			other := changed(next, 1)
			Check(other)
			Con(other, "A")
			answers(other)
			nowE, nowAt := Check(l)
			nowD, nowC := Con(l, "A")
			if nowE != e || nowAt != at || nowD != d || nowC != c || toldAll(answers(l)) != want {
				t.Fatalf("%s: another answer", told(l))
			}
		}
	}
}

func TestWrongInputsEnd(t *testing.T) {
	for kind := -2; kind < 5; kind++ {
		for _, name := range []string{"", "Int", "->", ",", "D", "Q", "\xff", strings.Repeat("x", 1000)} {
			for n := range 12 {
				y := api.Type{Kind: kind, N: n - 4, Name: name, Kids: make([]api.Type, n)}
				d := one(name, name, y, typ("D", y), typ("->", y, y))
				l := []api.Data{declared("D", "a", "X"), d, {}, d}
				checkOnce(t, l, firstWrong(l))
				checkType(t, l)
				checkCon(t, l, "C"+name, 1, 0)
			}
		}
	}
}

// deepType tells a type that has y in it so deep.
func deepType(deep int, y api.Type) api.Type {
	for i := range deep {
		switch i % 3 {
		case 0:
			y = typ("L", y)
		case 1:
			y = typ("->", typ("Int"), y)
		case 2:
			y = typ(",", y, variable(0))
		}
	}
	return y
}

func TestDeepTypes(t *testing.T) {
	for _, deep := range []int{1, 59, 60, 61, 1000, 60000} {
		for _, y := range []api.Type{variable(0), typ("Int")} {
			l := []api.Data{one("L", "a", typ("Int"), deepType(deep, y))}
			checkOnce(t, l, none)
			checkType(t, l)
		}
		for _, y := range []api.Type{variable(1), variable(-1), typ("L"), {}} {
			l := []api.Data{declared("A", "", "X"), one("L", "a", typ("Int"), deepType(deep, y))}
			putAts(l, 5, 3)
			checkOnce(t, l, place{1, 0})
			checkType(t, l)
		}
	}
}

// TestMany hands in so many of each thing that holding each against each other one would not end soon.
func TestMany(t *testing.T) {
	const n = 1 << 16
	var l []api.Data
	vars := make([]string, n)
	for i := range n {
		vars[i] = fmt.Sprint("v", i)
		l = append(l, one(fmt.Sprint("D", i), "a", typ(fmt.Sprint("D", n-1-i), variable(0))))
	}
	cons := slices.Concat(slices.Collect(func(yield func([]api.Con) bool) {
		for i := range n {
			if !yield([]api.Con{{Name: vars[i], Args: []api.Type{variable(n - 1 - i)}}}) {
				return
			}
		}
	})...)
	l = append(l, api.Data{Name: "D", Vars: vars, Cons: cons})
	checkOnce(t, l, none)
	checkCon(t, l, vars[n-1], n, n-1)
	if args, of := Type(l, n, 0); len(args) != 1 || args[0].N != n-1 || len(of.Kids) != n || of.Kids[n-1].N != n-1 {
		t.Error("of many variables")
	}
	l[n].At, l[n].Cons[n-1].At = 5, 7
	cons[n-1].Name = "CD7"
	checkOnce(t, l, place{n, n - 1})
	cons[n-1].Args[0].N = n
	checkOnce(t, l, place{n, n - 1})
	vars[n-1] = vars[n-2]
	checkOnce(t, l, place{n, -1})
	l[n-1].Name = "D0"
	l[n-1].At = 9
	checkOnce(t, l, place{0, 0})
}

func TestManyThatAreNothing(t *testing.T) {
	const n = 1 << 18
	l := make([]api.Data, n)
	l[1].At = 4
	checkOnce(t, l, place{1, -1})
	l = []api.Data{{Name: "D", At: 3, Vars: make([]string, n), Cons: make([]api.Con, n)}}
	checkOnce(t, l, place{0, -1})
	l[0].Vars, l[0].Cons[1].At = nil, 8
	checkOnce(t, l, place{0, 1})
	checkOnce(t, []api.Data{one("D", "", make([]api.Type, n)...)}, place{0, 0})
	checkOnce(t, []api.Data{one("D", "", typ(",", make([]api.Type, n)...))}, place{0, 0})
	checkOnce(t, []api.Data{one("D", "a", typ("D", typ("D", make([]api.Type, n)...)))}, place{0, 0})
}
