package parse

import (
	"slices"
	"strings"
	"testing"

	"warp/plays"
)

// The grammar of 10.1, a rule a line; x, C, 7 stand for NAME, CON, INT. Parts of brackets are counted.
const rules = `
program ::=
program ::= program decl
decl ::= data C names = cons ;
decl ::= let x names = expr ;
names ::=
names ::= names x
cons ::= con
cons ::= cons | con
con ::= C atypes
atypes ::=
atypes ::= atypes atype
type ::= btype
type ::= btype -> type
btype ::= C atypes
btype ::= atype
atype ::= x
atype ::= C
atype ::= ( type )
atype ::= ( type , type )
atype ::= ( type , type , type )
atype ::= ( type , type , type , type )
atype ::= ( type , type , type , type , type )
atype ::= ( type , type , type , type , type , type )
atype ::= ( type , type , type , type , type , type , type )
atype ::= ( type , type , type , type , type , type , type , type )
expr ::= \ x names -> expr
expr ::= let x names = expr in expr
expr ::= if expr then expr else expr
expr ::= case expr of { alts }
expr ::= app
alts ::= alt
alts ::= alts ; alt
alt ::= C names -> expr
app ::= atom
app ::= app atom
atom ::= x
atom ::= C
atom ::= 7
atom ::= true
atom ::= false
atom ::= ( expr )
atom ::= ( expr , expr )
atom ::= ( expr , expr , expr )
atom ::= ( expr , expr , expr , expr )
atom ::= ( expr , expr , expr , expr , expr )
atom ::= ( expr , expr , expr , expr , expr , expr )
atom ::= ( expr , expr , expr , expr , expr , expr , expr )
atom ::= ( expr , expr , expr , expr , expr , expr , expr , expr )`

// tokens tells each token that the grammar tells apart.
func tokens() []string {
	return strings.Fields(`x C 7 data let in if then else case of true false -> \ = ; | ( ) , { }`)
}

// rule of the grammar.
type rule struct {
	left  string
	right []string
}

// grammar tells the rules by their left sides.
func grammar() map[string][]*rule {
	m := map[string][]*rule{}
	for _, line := range strings.Split(strings.TrimSpace(rules), "\n") {
		f := strings.Fields(line)
		m[f[0]] = append(m[f[0]], &rule{f[0], f[2:]})
	}
	return m
}

// item is a rule of which some parts were read, from a place on.
type item struct {
	rule *rule
	read int
	from int
}

// wants tells the part that is to be read next: nothing, if all were.
func (i item) wants() string {
	if i.read < len(i.rule.right) {
		return i.rule.right[i.read]
	}
	return ""
}

func (i item) more() item { return item{i.rule, i.read + 1, i.from} }

// reading is what can be under way behind some tokens (Earley's way): of each place between them the items that end
// there.
type reading struct {
	rules map[string][]*rule
	sets  [][]item
}

// start tells the reading of no tokens.
func start() reading {
	r := reading{rules: grammar()}
	var l []item
	for _, x := range r.rules["program"] {
		l = append(l, item{rule: x})
	}
	return r.filled(l)
}

// filled tells r with those items behind it, and what follows from them.
func (r reading) filled(l []item) reading {
	now, seen := len(r.sets), map[item]bool{}
	var add func(i item)
	put := func(i item) {
		if !seen[i] {
			seen[i] = true
			l = append(l, i)
		}
	}
	add = func(i item) {
		wants := i.wants()
		for _, x := range r.rules[wants] {
			put(item{rule: x, from: now})
			if len(x.right) == 0 {
				put(i.more())
			}
		}
		if wants == "" && i.from < now {
			for _, j := range r.sets[i.from] {
				if j.wants() == i.rule.left {
					put(j.more())
				}
			}
		}
	}
	for _, i := range l {
		seen[i] = true
	}
	for k := 0; k < len(l); k++ {
		add(l[k])
	}
	return reading{r.rules, append(slices.Clip(r.sets), l)}
}

// with tells the reading with one token more; whether a program can go on with it.
func (r reading) with(token string) (reading, bool) {
	var l []item
	for _, i := range r.sets[len(r.sets)-1] {
		if i.wants() == token {
			l = append(l, i.more())
		}
	}
	if len(l) == 0 {
		return r, false
	}
	return r.filled(l), true
}

// whole tells whether what was read is a program.
func (r reading) whole() bool {
	return slices.ContainsFunc(r.sets[len(r.sets)-1], func(i item) bool {
		return i.rule.left == "program" && i.wants() == "" && i.from == 0
	})
}

// TestGrammar holds the reading by the grammar against what DOC.md says by words.
func TestGrammar(t *testing.T) {
	for src, want := range map[string]bool{
		"":                          true,
		"let x = x ;":               true,
		"let x = x":                 false,
		"let x x x = x x x ;":       true,
		`let x = \ x x -> x ;`:      true,
		"let x = ( x , x ) ( x ) ;": true,
		"let x = let x x = 7 in if true then x else false ;": true,
		"let x = case x of { C x x -> x ; C -> x } ;":        true,
		"let x = case x of { C -> x ; C -> x ; } ;":          false,
		"let x = x = x ;":                       false,
		`let x = x \ x -> x ;`:                  false,
		"data C = C ;":                          true,
		"data C x x = C x ( C x -> x ) | C ;":   true,
		"data C = C x -> x ;":                   false,
		"data C = C ; let x = x ; data C = C ;": true,
	} {
		r, can := start(), true
		for _, s := range strings.Fields(src) {
			if can {
				r, can = r.with(s)
			}
		}
		if (can && r.whole()) != want {
			t.Errorf("%q: %v, want %v", src, !want, want)
		}
	}
}

// checkRead checks that Parse tells of src what the reading of its last token says: it can not go on with the token
// at that place, or it can.
func checkRead(t *testing.T, src string, r reading, can bool, at int) {
	t.Helper()
	switch {
	case !can:
		checkToken(t, src, at)
	case r.whole():
		checkMay(t, src)
	default:
		checkToken(t, src, len(src))
	}
}

// checkList checks that Parse tells of those tokens what the grammar does.
func checkList(t *testing.T, l []string) {
	t.Helper()
	checkBehind(t, "", start(), l)
}

// checkBehind checks that of those tokens behind what was read.
func checkBehind(t *testing.T, src string, r reading, l []string) {
	t.Helper()
	can, at := true, 0
	for _, s := range l {
		if can {
			at = len(src)
			r, can = r.with(s)
		}
		src += s + " "
	}
	checkRead(t, src, r, can, at)
}

// grow checks all texts that begin so and have up to so many tokens more, no one behind one that can not stand.
func grow(t *testing.T, src string, r reading, more int) {
	if more == 0 || t.Failed() {
		return
	}
	for _, s := range tokens() {
		next, can := r.with(s)
		checkRead(t, src+s, next, can, len(src))
		checkRead(t, src+s+"\n ", next, can, len(src))
		if can {
			grow(t, src+s+" ", next, more-1)
		}
	}
}

// TestAllShortTexts holds Parse against the grammar of 10.1, token by token: whether it is a program, and where not.
func TestAllShortTexts(t *testing.T) {
	for src, more := range map[string]int{
		"":                             7,
		"let x =":                      4,
		"let x = x x":                  3,
		"let x = ( x ,":                3,
		"let x = ( x )":                3,
		`let x = \ x`:                  4,
		"let x = let x":                4,
		"let x = let x = x in":         3,
		"let x = if x then":            3,
		"let x = if x then x else":     3,
		"let x = case x of":            6,
		"let x = case x of { C x -> x": 4,
		"let x = case x of { C -> case x of { C ->": 4,
		"data C x =":               5,
		"data C = C (":             4,
		"data C = C ( C x":         4,
		"data C = C ( x ->":        4,
		"data C = C ( x , x":       4,
		"data C = C x | C":         4,
		"data C = C ; let x = x ;": 6,
	} {
		r := start()
		for _, s := range strings.Fields(src) {
			r, _ = r.with(s)
		}
		if src != "" {
			src += " "
		}
		grow(t, src, r, more)
	}
}

// forms tells each form of the grammar, with the fewest and with more of what may be repeated.
func forms() []string {
	var l []string
	for _, s := range []string{"x", "C", "7", "true", "false", "( x )", "( ( C ) )", "( x , 7 )",
		"( x , ( C , x ) , 7 )", "x x", "x x C 7 true ( x )", `\ x -> x`, `\ x x x -> \ x -> x x`, "let x = x in x",
		"let x x x = x in x x", "if x then x else x", "if if x then x else x then x x else if true then 7 else C",
		"case x of { C -> x }", "case x x of { C x x -> x x ; C -> C ; C x -> ( x , x ) }",
		"case case x of { C -> x } of { C -> case x of { C -> x ; C -> x } ; C -> x }",
		`( \ x -> x ) ( let x = x in x ) ( if x then x else x ) ( case x of { C -> x } )`} {
		l = append(l, "let x = "+s+" ;", "let x x x = ( 7 , "+s+" ) ; data C = C ; let x = 7 ;")
	}
	for _, s := range []string{"x", "C", "( x )", "( C )", "( x , C )", "( x -> x )", "( x -> C x -> ( x ) )",
		"( C x x )", "( C C ( C x ) x )", "( ( x -> x ) -> x )", "( ( x , x -> x , C x ) )", "x x C ( C x ) ( x )"} {
		l = append(l, "data C = C "+s+" ;", "data C x x = C | C "+s+" | C x "+s+" ; let x = x ;")
	}
	return l
}

// TestFormsWithOneTokenChanged leaves each token of each form out, puts each token at each place, and in each's place.
func TestFormsWithOneTokenChanged(t *testing.T) {
	for _, form := range forms() {
		l := strings.Fields(form)
		checkMay(t, form)
		checkMay(t, strings.Join(l, "\n--x\n"))
		src, r := "", start()
		for i, now := range l {
			checkBehind(t, src, r, nil)
			checkBehind(t, src, r, l[i+1:])
			for _, s := range tokens() {
				checkBehind(t, src, r, slices.Concat([]string{s}, l[i:]))
				checkBehind(t, src, r, slices.Concat([]string{s}, l[i+1:]))
			}
			src += now + " "
			r, _ = r.with(now)
		}
		for _, s := range tokens() {
			checkBehind(t, src, r, []string{s})
		}
	}
}

// TestFormsWithMoreChanged draws changes of some tokens of a form.
func TestFormsWithMoreChanged(t *testing.T) {
	next, all := plays.Below(101), forms()
	for range 6000 {
		l := slices.Concat(strings.Fields(all[next(len(all))]), strings.Fields(all[next(len(all))]))
		for range 1 + next(3) {
			i, j := next(len(l)), next(len(l))
			switch next(4) {
			case 0:
				l = slices.Delete(l, i, i+1)
			case 1:
				l[i], l[j] = l[j], l[i]
			case 2:
				l[i] = l[j]
			default:
				l = slices.Insert(l, i, tokens()[next(23)])
			}
		}
		checkList(t, l)
	}
}

// TestTokensOfOneSort takes other names, Cons, numbers: nothing hangs on which ones they are.
func TestTokensOfOneSort(t *testing.T) {
	next := plays.Below(102)
	names := []string{"x", "y", "lets", "ofx", "in_", "data1", "tru", strings.Repeat("x", 30)}
	cons := []string{"C", "D", "Let", "True", "Int", "DATA", strings.Repeat("X", 30)}
	numbers := []string{"7", "0", "1", "2147483647"}
	for _, form := range forms() {
		for range 20 {
			l := strings.Fields(form)
			for i, s := range l {
				if m := map[string][]string{"x": names, "C": cons, "7": numbers}[s]; m != nil {
					l[i] = m[next(len(m))]
				}
			}
			checkMay(t, strings.Join(l, " "))
		}
	}
}

// TestTextsOfManyTokens holds longer texts against the grammar, with one token that can not stand in each.
func TestTextsOfManyTokens(t *testing.T) {
	all := forms()
	src := strings.Join(all, " ")
	checkMay(t, src)
	for i := range all {
		ahead := strings.Join(all[:i], " ") + " "
		for _, s := range []string{"x", "C", "7", ";", ")", "->", "in", "true", `\`, "=", "|", "("} {
			checkToken(t, ahead+s+" "+src, len(ahead))
		}
		checkToken(t, ahead+"let x = x x = x ; "+src, len(ahead)+12)
	}
	checkMay(t, src+src)
}
