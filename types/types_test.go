package types

import (
	"strings"
	"testing"

	"warp/api"
	"warp/plays"
)

// sample tells a type that has each kind of node; each time a new one.
func sample() api.Type {
	return To(Tuple(Var(0), Con("Int")), Con("L", Var(27), To(Var(1), Var(0))))
}

const sampleText = "(a, Int) -> L b1 (b -> a)"

func TestMade(t *testing.T) {
	want := `type2"->"0@0[type2","0@0[type1""0@0[]type2"Int"0@0[]]` +
		`type2"L"0@0[type1""27@0[]type2"->"0@0[type1""1@0[]type1""0@0[]]]]`
	if s := Told(sample()); !strings.Contains(s, want) {
		t.Error(s)
	}
	if Told(Nest(3, Var(5))) != Told(Con("L", Con("L", Con("L", Var(5))))) || Told(Nest(0, Var(5))) != Told(Var(5)) {
		t.Error("of Nest")
	}
	if Told(Vars(7, 0, 7)...) != Told(Var(7), Var(0), Var(7)) || len(Vars()) != 0 {
		t.Error("of Vars")
	}
	kids := Vars(1, 2)
	y, z := Con("T", kids...), Tuple(kids...)
	kids[0].N = 9
	if y.Kids[0].N != 1 || z.Kids[0].N != 1 {
		t.Error("a type holds the list that was handed in")
	}
}

func TestOf(t *testing.T) {
	if Told(Of(sampleText)) != Told(sample()) || Told(All("a", sampleText)...) != Told(Var(0), sample()) ||
		len(All()) != 0 {
		t.Error(Told(Of(sampleText)))
	}
	for n, name := range Names() {
		if Told(Of(name)) != Told(Var(n)) {
			t.Errorf("variable %d is %s", n, name)
		}
	}
	names := Names()
	if names[0] != "a" || names[25] != "z" || names[26] != "a1" || names[53] != "b2" || len(names) < 104 {
		t.Error(names)
	}
	for _, s := range []string{"", "L (", "->", "what", "a; let f = 1"} {
		if !panics(func() { Of(s) }) {
			t.Errorf("%q says a type", s)
		}
	}
}

func panics(f func()) (does bool) {
	defer func() { does = recover() != nil }()
	f()
	return false
}

func TestNodes(t *testing.T) {
	y := sample()
	var l []string
	for _, at := range Nodes(&y) {
		l = append(l, at.Name+string(rune('0'+at.N%10)))
	}
	if s := strings.Join(l, " "); s != "->0 ,0 0 Int0 L0 7 ->0 1 0" {
		t.Errorf("%q", s)
	}
	for i, at := range Nodes(&y) {
		was := Told(y)
		at.Kind = 70 + i
		if Told(y) == was {
			t.Errorf("node %d is not where it stands", i)
		}
	}
	if s := strings.Join(Texts(sample()), ""); s != "->,IntL->" {
		t.Errorf("%q", s)
	}
}

func TestTold(t *testing.T) {
	seen := map[string]int{Told(sample()): 1}
	for i := range Nodes(new(sample())) {
		for j, change := range []func(at *api.Type){func(at *api.Type) { at.Kind++ }, func(at *api.Type) { at.N += 5 },
			func(at *api.Type) { at.Name += "x" }, func(at *api.Type) { at.Kids = append(at.Kids, Var(4)) }} {
			y := sample()
			change(Nodes(&y)[i])
			if seen[Told(y)]++; seen[Told(y)] > 1 {
				t.Errorf("change %d of node %d is not told", j, i)
			}
		}
	}
	if Told() != Told() || Told(Var(0)) == Told(Var(0), Var(0)) {
		t.Error("of some types")
	}
	if s := Cut(Nest(1000, sample())); len(s) > 700 || Cut(sample()) == Cut(Var(0)) {
		t.Error(s)
	}
}

func TestMemory(t *testing.T) {
	y := sample()
	for _, z := range []api.Type{Copy(y), Roomy(y), Roomy(Roomy(y)), Roomy(api.Type{}), Copy(api.Type{Kids: Vars(1)})} {
		if Shared(z, y) || Shared(z, Roomy(z), Copy(z)) || !Shared(z, z) && len(z.Kids) > 0 {
			t.Errorf("of %s", Cut(z))
		}
	}
	if Told(Copy(y)) != Told(y) || Told(Roomy(y)) != Told(y) {
		t.Error("a copy is another type")
	}
	for _, at := range Nodes(new(Roomy(y))) {
		if cap(at.Kids) <= len(at.Kids) {
			t.Errorf("no spare room in %s", Cut(*at))
		}
	}
	kids := Vars(1, 2, 3)
	if !Shared(api.Type{Kids: kids[:1]}, api.Type{Kids: kids[2:]}) ||
		!Shared(api.Type{Kids: []api.Type{{Kids: kids}, {Kids: kids[:0]}}}) {
		t.Error("of one memory")
	}
	z := Roomy(y)
	l := Nodes(&z)
	Scribble(z)
	for _, at := range l[1:] {
		if at.Kind != 77 {
			t.Error("of Scribble")
		}
	}
	if room := l[0].Kids[:cap(l[0].Kids)]; room[len(room)-1].Kind != 77 {
		t.Error("of spare room")
	}
}

// TestDrawn looks whether all that there is is drawn: each sort of node within each, in each place.
func TestDrawn(t *testing.T) {
	next, kids, deep := plays.Below(171), map[string]int{}, map[int]int{}
	for i := range 3000 {
		y := Drawn(next, 1+i%5, 4)
		deep[deepOf(y)]++
		for _, at := range Nodes(&y) {
			for j, kid := range at.Kids {
				kids[sortOf(*at)+string(rune('0'+j))+sortOf(kid)]++
			}
		}
	}
	for _, outer := range []string{"->0", "->1", ",0", ",1", ",3", "L0", "T1", "X_12"} {
		for _, inner := range []string{"->", ",", "L", "T", "Aa9", "Int", "Bool", "var"} {
			if n := kids[outer+inner]; n < 5 {
				t.Errorf("%s in %s is drawn %d times", inner, outer, n)
			}
		}
	}
	for n := 1; n <= 5; n++ {
		if deep[n] < 100 {
			t.Errorf("%d deep: %d times", n, deep[n])
		}
	}
	if len(deep) != 5 || deepOf(Drawn(next, 0, 0)) != 1 {
		t.Error(deep)
	}
	for range 300 {
		for _, at := range Nodes(new(Drawn(next, 4, 0))) {
			if at.Kind == api.YVar {
				t.Fatal("a variable, of none")
			}
		}
	}
}

func sortOf(t api.Type) string {
	if t.Kind == api.YVar {
		return "var"
	}
	return t.Name
}

func deepOf(t api.Type) int {
	deep := 0
	for _, kid := range t.Kids {
		deep = max(deep, deepOf(kid))
	}
	return deep + 1
}

func TestChanged(t *testing.T) {
	next, as, wrong := plays.Below(172), 0, map[string]int{}
	for range 3000 {
		y := Drawn(next, 3, 3)
		was := Told(y)
		z := Changed(next, y)
		if Told(y) != was || Shared(y, z) {
			t.Fatalf("%s: what was handed in is another", was)
		}
		if Told(z) == was {
			as++
		}
		for _, at := range Nodes(&z) {
			wrong[at.Name]++
		}
	}
	if as > 1500 || wrong["int"] < 20 || wrong["A'"] < 20 || wrong["->"] < 100 {
		t.Error(as, wrong)
	}
}
