package term

import (
	"slices"
	"strings"
	"testing"
	"unsafe"

	"warp/api"
	"warp/lists"
	"warp/plays"
	"warp/types"
)

// R3: what is told is new memory, of Kids within Kids too; what is handed in is neither changed nor kept.

// answers tells what Subst and Canon tell of y.
func answers(y api.Type, l []api.Type) []api.Type {
	return []api.Type{Subst(y, l), Subst(y, l[:len(l)/2]), Subst(y, nil), Canon(y), Subst(y, l), Canon(y)}
}

// often tells types in which a variable stands more than once.
func often() []api.Type {
	return types.All("a", "(a, a)", "a -> a -> a", "T a (L a) (a, b) (b -> a)", "T b b b", "L (L (L a))", "Int",
		"T Int Int")
}

func TestNoTwoListsShareMemory(t *testing.T) {
	next := plays.Below(178)
	l := append(types.All("b -> L a", "(a, (b, Int))", "Int"), types.Roomy(types.Of("T a (L b)")))
	check := func(y api.Type, l []api.Type) {
		in := append([]api.Type{y}, l...)
		if types.Shared(in...) {
			t.Fatalf("the test itself is wrong: %s", types.Cut(y))
		}
		told := answers(y, l)
		if types.Shared(append(in, told...)...) || lists.Shared([][]api.Type{l, told}) {
			t.Fatalf("%s: two lists share memory", types.Cut(y))
		}
		if lists.Shared([][]int{Vars(y), Vars(y)}) {
			t.Fatalf("%s: two lists of variables share memory", types.Cut(y))
		}
	}
	for _, y := range append(often(), right()...) {
		check(y, l)
		check(types.Roomy(y), l)
	}
	for range 1000 {
		check(changed(next, 0), put(next))
		check(types.Roomy(changed(next, 1)), put(next))
	}
}

// TestSpareRoom hands in types with spare room behind all Kids, of variables and of names without Kids too: what is
// told has none of that.
func TestSpareRoom(t *testing.T) {
	for _, y := range often() {
		roomy := types.Roomy(y)
		for _, l := range [][]api.Type{nil, {types.Roomy(types.Var(0))},
			{types.Roomy(types.Of("L a")), types.Roomy(y)}} {
			for _, got := range answers(roomy, l) {
				types.Scribble(got)
				for _, at := range types.Nodes(&got) {
					at.Kids = append(at.Kids, types.Var(5))
				}
			}
		}
		for _, at := range types.Nodes(&roomy) {
			room := at.Kids[len(at.Kids) : len(at.Kids)+20]
			if types.Told(room...) != types.Told(types.Vars(lists.Of(20, 77)...)...) {
				t.Fatalf("%s: its spare room is another", types.Cut(y))
			}
		}
	}
}

func TestWritingChangesNothing(t *testing.T) {
	next := plays.Below(179)
	for range 1000 {
		y, l := types.Roomy(changed(next, 0)), put(next)
		was, all := types.Told(y), types.Told(l...)
		one, other, vars := answers(y, l), answers(y, l), Vars(y)
		want, wantVars := types.Told(other...), plainVars(y)
		types.Scribble(one...)
		lists.Scribble(Vars(y), -7)
		if types.Told(y) != was || types.Told(l...) != all || types.Told(other...) != want ||
			!slices.Equal(vars, wantVars) {
			t.Fatalf("%s: writing into what is told changed something", was)
		}
		if types.Told(answers(y, l)...) != want {
			t.Fatalf("%s: writing into what is told changed what is told next", was)
		}
		types.Scribble(append(l, y)...)
		lists.Scribble(l, api.Type{Kind: 77})
		if types.Told(other...) != want || !slices.Equal(vars, wantVars) {
			t.Fatalf("%s: writing into what was handed in changed what is told", was)
		}
	}
}

// Whoever appends to the Kids of one node changes no other one.
func TestAppendingChangesNothing(t *testing.T) {
	for _, y := range often() {
		l := types.All("b -> L a", "(a, (b, Int))")
		for which, want := range answers(y, l) {
			told := types.Told(want)
			for i := range types.Nodes(&want) {
				got := answers(y, l)[which]
				at := types.Nodes(&got)[i]
				kids := len(at.Kids)
				for range 20 {
					at.Kids = append(at.Kids, types.Con("No"))
				}
				at.Kids = at.Kids[:kids]
				if types.Told(got) != told {
					t.Errorf("%s: appending to node %d changes answer %d", types.Cut(y), i, which)
				}
			}
		}
	}
}

// What was handed in is not kept: whoever writes into it changes no answer that is still to come.
func TestNothingIsKept(t *testing.T) {
	next := plays.Below(180)
	for range 300 {
		y, z, l := changed(next, 0), changed(next, 0), put(next)
		want := types.Told(answers(z, types.All("L a", "Int"))...)
		answers(y, l)
		Same(y, z)
		types.Scribble(append(l, y)...)
		lists.Scribble(l, api.Type{Kind: 77})
		May(y)
		Text(y)
		answers(y, l)
		if types.Told(answers(z, types.All("L a", "Int"))...) != want {
			t.Fatalf("%s: another answer", types.Cut(z))
		}
		checkPlain(t, z, z, nil)
	}
}

// TestListsThatShareMemory hands in types whose Kids are of one memory, and types to be put that are these Kids.
func TestListsThatShareMemory(t *testing.T) {
	pair := lists.Roomy(types.Vars(1, 0), types.Con("No"))
	kids := lists.Roomy([]api.Type{{Kind: api.YCon, Name: "->", Kids: pair}, {Kind: api.YCon, Name: ",", Kids: pair},
		{Kind: api.YCon, Name: "L", Kids: pair[:1]}, {Kind: api.YCon, Name: "L", Kids: pair[1:]}}, types.Con("No"))
	y := api.Type{Kind: api.YCon, Name: "T", Kids: kids}
	const s = "T (b -> a) (b, a) (L b) (L a)"
	checkPlain(t, y, types.Of(s), kids)
	checkSame(t, y, types.Of(s), true)
	checkText(t, y, s)
	checkVars(t, y, 1, 0)
	checkCanon(t, y, types.Of("T (a -> b) (a, b) (L a) (L b)"))
	want := types.Of("T ((b, a) -> b -> a) ((b, a), b -> a) (L (b, a)) (L (b -> a))")
	checkSubst(t, y, kids, want)
	got := Subst(y, kids)
	if !types.Shared(y) || types.Shared(got, Subst(y, kids), Canon(y)) {
		t.Error("two lists share memory")
	}
	types.Scribble(y)
	checkType(t, "Subst", y, got, want)
}

// What is told holds no piece of the texts that were handed in.
func TestNamesAreNoPieces(t *testing.T) {
	src := strings.Clone("Tee L Int Bool ->")
	part := func(low, high int) string { return src[low:high] }
	y := types.Con(part(0, 3), types.Con(part(4, 5), types.Var(0)),
		types.Con(part(15, 17), types.Con(part(6, 9)), types.Var(1)))
	l := []api.Type{types.Con(part(10, 14))}
	low := uintptr(unsafe.Pointer(unsafe.StringData(src)))
	isPiece := func(s string) bool {
		at := uintptr(unsafe.Pointer(unsafe.StringData(s)))
		return s != "" && at >= low && at < low+uintptr(len(src))
	}
	checkSubst(t, y, l, types.Of("Tee (L Bool) (Int -> b)"))
	for _, got := range answers(y, append(l, l...)) {
		if slices.ContainsFunc(types.Texts(got), isPiece) {
			t.Errorf("%s holds a piece of what was handed in", types.Cut(got))
		}
	}
	if isPiece(Text(types.Con(part(6, 9)))) || isPiece(Text(y)) {
		t.Error("a text is a piece of what was handed in")
	}
}
