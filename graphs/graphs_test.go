package graphs

import (
	"slices"
	"strings"
	"testing"

	"warp/lists"
	"warp/plays"
)

func TestTexts(t *testing.T) {
	for s, want := range map[string][][]int{"": nil, "-": {nil}, "0": {{0}}, "1 / 0": {{1}, {0}},
		"1 / - / 0 2": {{1}, nil, {0, 2}}, "-1 70 / -": {{-1, 70}, nil}, "- / -": {nil, nil}} {
		if g := Of(s); !Same(g, want) || Told(g) != s {
			t.Errorf("%q says %v, which is told as %q", s, g, Told(g))
		}
	}
	if !Same(Of(" 1/0 "), Of("1 / 0")) || Same(Of("1 / 0"), Of("0 / 1")) || Same(Of("-"), Of("- / -")) {
		t.Error("Of, Same")
	}
}

func TestMemory(t *testing.T) {
	g := Of("1 / - / 0 2")
	for i, made := range [][][]int{Copy(g), Roomy(g, 7)} {
		if !Same(made, g) || Shared(g, made) {
			t.Errorf("%d: %v", i, made)
		}
	}
	r := Roomy(g, 7)
	if r[0][:2][1] != 7 || r[1][:1][0] != 7 || r[:4][3][0] != 7 {
		t.Errorf("spare room is %v", r[:4])
	}
	row := r[0]
	Scribble(r, 5)
	if !Same(r, Of("5 / 5 / 5")) || row[:2][1] != 5 || !Same(g, Of("1 / - / 0 2")) {
		t.Errorf("Scribble leaves %v, %v, %v", r, row[:2], g)
	}
	if !Shared(g, g) || !Shared(g, [][]int{g[2]}) || !Shared([][]int{g[2], g[2][:1]}) || Shared() {
		t.Error("Shared")
	}
}

func TestNoNodes(t *testing.T) {
	for _, n := range []int{0, 1, 2, 7, 300, 1 << 17} {
		l := NoNodes(n)
		for _, x := range l {
			if x >= 0 && x < n {
				t.Errorf("%d is a node of %d", x, n)
			}
		}
		if !slices.Contains(l, -1) || !slices.Contains(l, n) || slices.Contains(l, 1<<16) != (n <= 1<<16) {
			t.Errorf("of %d: %v", n, l)
		}
	}
}

func TestMade(t *testing.T) {
	for i, c := range []struct {
		g    [][]int
		want string
	}{
		{Chain(0), ""}, {Chain(1), "-"}, {Chain(3), "1 / 2 / -"}, {Ring(1), "0"}, {Ring(3), "1 / 2 / 0"}, {Behind(), ""},
		{Behind(Ring(2), Chain(2), nil, Ring(1)), "1 / 0 / 3 / - / 4"},
		{Turned(Of("1 2 / 1 9 / - / 0 -1")), "3 / 0 1 / 0 / -"},
		{Renamed(Of("1 2 / 1 9 / -"), []int{2, 0, 1}), "0 9 / - / 0 1"},
	} {
		if Told(c.g) != c.want {
			t.Errorf("%d: %q, want %q", i, Told(c.g), c.want)
		}
	}
}

func TestCut(t *testing.T) {
	for n, want := range map[int]string{0: " of 0 nodes", 1: "- of 1 nodes", 3: "1 / 2 / - of 3 nodes"} {
		if got := Cut(Chain(n)); got != want {
			t.Errorf("%q, want %q", got, want)
		}
	}
	if got := Cut(Chain(5000)); len(got) != 600+len(" of 5000 nodes") || !strings.HasSuffix(got, " of 5000 nodes") {
		t.Errorf("%q", got)
	}
	if got := Cut(make([][]int, 5000)); got != Told(make([][]int, 200))[:600]+" of 5000 nodes" {
		t.Errorf("%q", got)
	}
}

func TestRenamings(t *testing.T) {
	for n, want := range map[int]int{0: 1, 1: 1, 2: 2, 3: 6, 4: 24} {
		if got := len(Renamings(n)); got != want {
			t.Errorf("%d ways to name %d, want %d", got, n, want)
		}
	}
	for n := range 20 {
		for _, p := range Renamings(n) {
			if l := slices.Sorted(slices.Values(p)); !slices.Equal(l, lists.Span(0, n-1)) {
				t.Errorf("of %d: %v", n, p)
			}
		}
		if n > 4 && len(Renamings(n)) < 2*n {
			t.Errorf("of %d: %d", n, len(Renamings(n)))
		}
	}
}

func TestSaid(t *testing.T) {
	g := Of("1 2 / 2 / -")
	said := Said(g)
	for i, want := range []string{"2 1 / 2 / -", "1 2 1 2 / 2 2 / -", "1 2 1 2 1 2 / 2 2 2 / -", "1 2 0 / 2 1 / 2",
		"0 1 2 / 1 2 / 2"} {
		if Told(said[i]) != want {
			t.Errorf("%d: %q, want %q", i, Told(said[i]), want)
		}
	}
	for i, one := range said {
		for x, row := range one {
			is := func(y int) bool { return y < 0 || y > 2 || y == x }
			l := slices.DeleteFunc(slices.Clone(row), is)
			slices.Sort(l)
			if !slices.Equal(slices.Compact(l), g[x]) || Shared(g, [][]int{row}) {
				t.Errorf("%d: %q", i, Told(one))
			}
		}
	}
}

func TestDrawn(t *testing.T) {
	next, seen := plays.Below(1), map[string]int{}
	for range 500 {
		g := Drawn(next, next(5), 4)
		spoilt := Spoilt(next, g, 3)
		none := 0
		for x, row := range spoilt {
			none += len(row) - len(g[x])
			l := slices.DeleteFunc(slices.Clone(row), func(y int) bool { return y < 0 || y >= len(g) })
			if !slices.Equal(l, g[x]) || len(l) > 3 {
				t.Errorf("%q was made of %q", Told(spoilt), Told(g))
			}
		}
		if none != 3 && len(g) > 0 {
			t.Errorf("%q: %d that are no nodes", Told(spoilt), none)
		}
		seen[Told(g)]++
	}
	if len(seen) < 200 || seen[""] == 0 || seen["-"] == 0 || seen["0"] == 0 {
		t.Errorf("%d graphs", len(seen))
	}
}

func TestEach(t *testing.T) {
	seen := map[string]int{}
	for n := range 4 {
		Each(n, func(g [][]int) { seen[Told(g)]++ })
	}
	if len(seen) != 1+2+16+512 || seen["0 1 / 0 1"] != 1 || seen["-"] != 1 {
		t.Errorf("%d graphs", len(seen))
	}
}
