package term

import (
	"fmt"
	"regexp"
	"slices"
	"strings"
	"testing"

	"warp/api"
	"warp/show"
	"warp/types"
)

// What the chapter says, word by word.

var plainCon = regexp.MustCompile(`^[A-Z][A-Za-z0-9_]{0,29}$`)

// plainDeep tells how deep y is: one without Kids is 1 deep.
func plainDeep(y api.Type) int {
	deep := 0
	for _, kid := range y.Kids {
		deep = max(deep, plainDeep(kid))
	}
	return deep + 1
}

func plainMay(y api.Type) bool {
	for _, at := range types.Nodes(&y) {
		kids := len(at.Kids)
		isVar := at.Kind == api.YVar && at.N >= 0 && at.N <= api.MaxInt && at.Name == "" && kids == 0
		isName := at.Name == "->" && kids == 2 || at.Name == "," && kids >= 2 && kids <= api.MaxTuple ||
			plainCon.MatchString(at.Name) && !strings.HasSuffix(at.Name, "\n") && kids <= 20
		if !isVar && !(at.Kind == api.YCon && at.N == 0 && isName) {
			return false
		}
	}
	return plainDeep(y) <= 100
}

func plainSize(y api.Type) int {
	return min(len(types.Nodes(&y)), api.MaxSize+1)
}

func plainVars(y api.Type) []int {
	var l []int
	for _, at := range types.Nodes(&y) {
		if at.Kind == api.YVar && !slices.Contains(l, at.N) {
			l = append(l, at.N)
		}
	}
	return l
}

// plainSubst writes into a copy of y what l has for its variables.
func plainSubst(y api.Type, l []api.Type) api.Type {
	y = types.Copy(y)
	for _, at := range types.Nodes(&y) {
		if at.Kind == api.YVar && at.N < len(l) {
			*at = types.Copy(l[at.N])
		}
	}
	return y
}

func plainCanon(y api.Type) api.Type {
	vars := plainVars(y)
	y = types.Copy(y)
	for _, at := range types.Nodes(&y) {
		if at.Kind == api.YVar {
			at.N = slices.Index(vars, at.N)
		}
	}
	return y
}

func plainText(y api.Type) string {
	if y.Kind == api.YVar && y.N >= 26 {
		return fmt.Sprint(plainText(types.Var(y.N%26)), y.N/26)
	}
	if y.Kind == api.YVar {
		return fmt.Sprintf("%c", 'a'+y.N)
	}
	var kids, held []string
	for i, kid := range y.Kids {
		s := plainText(kid)
		kids, held = append(kids, s), append(held, s)
		if kid.Name == "->" || y.Name != "->" && len(kid.Kids) > 0 && kid.Name != "," {
			held[i] = "(" + s + ")"
		}
	}
	switch y.Name {
	case "->":
		return held[0] + " -> " + kids[1]
	case ",":
		return "(" + strings.Join(kids, ", ") + ")"
	}
	return strings.Join(append([]string{y.Name}, held...), " ")
}

// checkPlain checks that all calls tell what the chapter says of y, of l put for its variables, and of y beside other.
func checkPlain(t *testing.T, y, other api.Type, l []api.Type) {
	t.Helper()
	may := plainMay(y)
	checkMay(t, y, may)
	checkSize(t, y, plainSize(y))
	checkSame(t, y, other, types.Told(y) == types.Told(other))
	if may {
		checkVars(t, y, plainVars(y)...)
		checkSubst(t, y, l, plainSubst(y, l))
		checkCanon(t, y, plainCanon(y))
		checkText(t, y, plainText(y))
	}
}

// checkShown checks that y's text, in brackets where it is none that may stand alone, is that which programs have of
// it (11.2), and that the text says y. Its variables are among those that have names there.
func checkShown(t *testing.T, y api.Type) {
	t.Helper()
	if plainDeep(y) > api.MaxDeep-1 {
		t.Fatalf("the test itself is wrong: %s is too deep", types.Cut(y))
	}
	if types.Told(types.Of(Text(y))) != types.Told(y) {
		t.Errorf("%s: the text %s says another type", types.Cut(y), Text(y))
	}
	p := api.Program{Datas: []api.Data{{Name: "D", Vars: types.Names(), Cons: []api.Con{{Name: "C",
		Args: []api.Type{types.Con("L", y)}}}}}}
	want := "data D " + strings.Join(types.Names(), " ") + " = C (" + Text(types.Con("L", y)) + ");\n"
	if s := show.Program(p); s != want {
		t.Errorf("%s: %s, want %s", types.Cut(y), s, want)
	}
}
