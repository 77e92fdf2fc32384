package lex

import (
	"fmt"
	"math"
	"regexp"
	"slices"
	"strconv"
	"strings"
	"testing"
	"unsafe"

	"warp/api"
	"warp/lists"
	"warp/plays"
)

const (
	lowers = "abcdefghijklmnopqrstuvwxyz"
	uppers = "ABCDEFGHIJKLMNOPQRSTUVWXYZ"
	digits = "0123456789"
)

// words tells all words of the language.
func words() []string { return strings.Fields("data let in if then else case of true false") }

// signs tells all signs of the language.
func signs() []string { return strings.Fields(`-> \ = ; | ( ) , { }`) }

// name, con, num, word, sign tell tokens.
func name(s string, at int) api.Tok { return api.Tok{Kind: api.TName, At: at, S: s} }
func con(s string, at int) api.Tok  { return api.Tok{Kind: api.TCon, At: at, S: s} }
func num(n, at int) api.Tok         { return api.Tok{Kind: api.TInt, At: at, N: n} }
func word(s string, at int) api.Tok { return api.Tok{Kind: api.TWord, At: at, S: s} }
func sign(s string, at int) api.Tok { return api.Tok{Kind: api.TSign, At: at, S: s} }

// said tells a text so that it can be read, cut where it is long.
func said(s string) string {
	return fmt.Sprintf("%q of %d bytes", s[:min(len(s), 60)], len(s))
}

// saidTokens is said of tokens.
func saidTokens(l []api.Tok) string {
	return fmt.Sprintf("%d tokens, %+v", len(l), l[:min(len(l), 20)])
}

// check checks that src has those tokens, and nothing wrong.
func check(t *testing.T, src string, want ...api.Tok) {
	t.Helper()
	if l, e, at := Lex(src); e != api.OK || at != 0 || !slices.Equal(l, want) {
		t.Errorf("%s: error %d at %d, %s, want %s", said(src), e, at, saidTokens(l), saidTokens(want))
	}
}

// checkWrong checks that the first thing of src that is no token is where it should be.
func checkWrong(t *testing.T, src string, want int) {
	t.Helper()
	if l, e, at := Lex(src); e != api.ErrLex || at != want || len(l) != 0 {
		t.Errorf("%s: error %d at %d, %s, want ErrLex at %d", said(src), e, at, saidTokens(l), want)
	}
}

// checkArg checks that src is too long.
func checkArg(t *testing.T, src string) {
	t.Helper()
	if l, e, at := Lex(src); e != api.ErrArg || at != 0 || len(l) != 0 {
		t.Errorf("%s: error %d at %d, %s, want ErrArg at 0", said(src), e, at, saidTokens(l))
	}
}

// checkKind checks that s is a name, or a Con, or, of another kind, neither.
func checkKind(t *testing.T, s string, kind int) {
	t.Helper()
	if Name(s) != (kind == api.TName) || Con(s) != (kind == api.TCon) {
		t.Errorf("%s: Name %v, Con %v, want kind %d", said(s), Name(s), Con(s), kind)
	}
}

var (
	plainName  = regexp.MustCompile(`^[a-z][a-zA-Z0-9_]{0,29}$`)
	plainCon   = regexp.MustCompile(`^[A-Z][a-zA-Z0-9_]{0,29}$`)
	plainThing = regexp.MustCompile(`^(?:([ \t\n]|--[^\n]*)|([a-zA-Z][a-zA-Z0-9_]*)|([0-9]+)|(->|[\\=;|(),{}]))`)
)

// plainKind tells what s is by patterns: 0, if it is no word, no name, no Con.
func plainKind(s string) int {
	switch {
	case slices.Contains(words(), s):
		return api.TWord
	case plainName.MatchString(s):
		return api.TName
	case plainCon.MatchString(s):
		return api.TCon
	}
	return 0
}

// plainNumber tells the number that a row of digits says, and whether it may.
func plainNumber(s string) (int, bool) {
	n, err := strconv.Atoi(s)
	return n, err == nil && n <= 1<<31-1 && strconv.Itoa(n) == s
}

// plainLex tells what Lex should, by patterns. It is what the tests hold Lex against.
func plainLex(src string) (l []api.Tok, e api.Errno, at int) {
	if len(src) > 65536 {
		return nil, api.ErrArg, 0
	}
	for at < len(src) {
		m := plainThing.FindStringSubmatch(src[at:])
		switch {
		case m == nil:
			return nil, api.ErrLex, at
		case m[2] != "":
			k := plainKind(m[2])
			if k == 0 {
				return nil, api.ErrLex, at
			}
			l = append(l, api.Tok{Kind: k, At: at, S: m[2]})
		case m[3] != "":
			n, may := plainNumber(m[3])
			if !may {
				return nil, api.ErrLex, at
			}
			l = append(l, num(n, at))
		case m[4] != "":
			l = append(l, sign(m[4], at))
		}
		at += len(m[0])
	}
	return l, api.OK, 0
}

// checkPlain checks that Lex tells what plainLex tells.
func checkPlain(t *testing.T, src string) {
	t.Helper()
	wantL, wantE, wantAt := plainLex(src)
	if l, e, at := Lex(src); e != wantE || at != wantAt || !slices.Equal(l, wantL) {
		t.Fatalf("%s: error %d at %d, %s, want error %d at %d, %s",
			said(src), e, at, saidTokens(l), wantE, wantAt, saidTokens(wantL))
	}
}

// eachByte calls f with each byte as a text.
func eachByte(f func(s string)) {
	for b := range 256 {
		f(string([]byte{byte(b)}))
	}
}

// Promise 9.1.

func TestNames(t *testing.T) {
	for _, s := range []string{"a", "z", "x1", "fold", "a_b", "aB", "z_9A", "a_", "a__", "a0", "zZ9_", "x00",
		"lets", "inA", "d"} {
		checkKind(t, s, api.TName)
	}
	for _, s := range []string{"A", "Z", "X1", "List", "A_b", "AB", "Z_9a", "A_", "A__", "A0", "ZZ9_", "X00", "Let",
		"TRUE", "D"} {
		checkKind(t, s, api.TCon)
	}
	for _, s := range []string{"_", "_a", "_A", "0", "9", "0a", "9A", "0x1", "a b", "a'", "a-b", "a.b", "->", "-",
		"--", "--a", ";", "()", "a;"} {
		checkKind(t, s, 0)
	}
}

func TestEmptyTextIsNoName(t *testing.T) {
	checkKind(t, "", 0)
}

func TestEachByteAsTheFirstOfAName(t *testing.T) {
	eachByte(func(s string) {
		want := 0
		if strings.Contains(lowers, s) {
			want = api.TName
		} else if strings.Contains(uppers, s) {
			want = api.TCon
		}
		for _, more := range []string{"", "q", "Q", "7", "_", "q_Q7", strings.Repeat("x", 29)} {
			checkKind(t, s+more, want)
		}
		checkKind(t, s+strings.Repeat("x", 30), 0)
	})
}

func TestEachByteBehindTheFirstOfAName(t *testing.T) {
	eachByte(func(s string) {
		is := strings.Contains(lowers+uppers+digits+"_", s)
		for first, want := range map[string]int{"q": api.TName, "Q": api.TCon, "_": 0, "1": 0} {
			if !is {
				want = 0
			}
			checkKind(t, first+s, want)
			checkKind(t, first+s+"x", want)
			checkKind(t, first+"x"+s, want)
			checkKind(t, first+"x"+s+s+"_9", want)
			checkKind(t, first+strings.Repeat("x", 28)+s, want)
			checkKind(t, first+strings.Repeat("x", 29)+s, 0)
		}
	})
}

func TestLongNames(t *testing.T) {
	for _, c := range "axzAXZ_0 é" {
		for _, n := range []int{1, 2, 28, 29, 30, 31, 32, 33, 60, 61, 64, 255, 256, 257, 256 + 30, 1 << 16,
			1<<16 + 30, 1 << 20} {
			s := strings.Repeat(string(c), n)
			checkKind(t, s, plainKind(s))
			checkKind(t, "a"+s, plainKind("a"+s))
			checkKind(t, "A"+s, plainKind("A"+s))
		}
	}
	for _, s := range []string{"abcdefghijklmnopqrstuvwxyz_012", "z" + strings.Repeat("_", 29),
		"z" + strings.Repeat("9", 29)} {
		checkKind(t, s, api.TName)
		checkKind(t, s+"3", 0)
		checkKind(t, s+"_", 0)
		checkKind(t, strings.ToUpper(s), api.TCon)
		checkKind(t, strings.ToUpper(s)+"3", 0)
	}
}

func TestWordsAreNoNames(t *testing.T) {
	for _, w := range words() {
		checkKind(t, w, 0)
		check(t, w, word(w, 0))
	}
}

func TestWordsButForCase(t *testing.T) {
	for _, w := range words() {
		checkKind(t, strings.ToUpper(w), api.TCon)
		check(t, strings.ToUpper(w), con(strings.ToUpper(w), 0))
		for i := range len(w) {
			s := w[:i] + strings.ToUpper(w[i:i+1]) + w[i+1:]
			if i > 0 {
				checkKind(t, s, api.TName)
				check(t, s, name(s, 0))
			} else {
				checkKind(t, s, api.TCon)
				check(t, s, con(s, 0))
			}
		}
	}
}

// Words of other languages are names here, and so is every other short row of letters.
func TestOtherWordsAreNames(t *testing.T) {
	for _, s := range strings.Fields(`where type newtype module import class instance do fun fn func function match with
		and or not rec begin end while for return nil null none def as is int bool char string unit forall elif elseif
		endif switch default break goto var val const letrec ins truth nothing otherwise lambda undefined datas`) {
		checkKind(t, s, api.TName)
		check(t, s, name(s, 0))
	}
	for n := range 5 {
		lists.Each(n, bytesOf(lowers), func(l []int) {
			s := ofBytes(l)
			if is := s != "" && !slices.Contains(words(), s); Name(s) != is || Con(s) {
				t.Errorf("%q: Name %v, Con %v", s, Name(s), Con(s))
			}
		})
	}
}

// checkNearWord checks s, which is a word but for one letter, or a word.
func checkNearWord(t *testing.T, s string) {
	t.Helper()
	checkKind(t, s, plainKind(s))
	checkPlain(t, s)
}

func TestWordsWithALetterMoreOrFewerOrAnother(t *testing.T) {
	for _, w := range words() {
		for i := range len(w) + 1 {
			for _, c := range lowers + uppers + digits + "_ ;é" {
				checkNearWord(t, w[:i]+string(c)+w[i:])
				if i < len(w) {
					checkNearWord(t, w[:i]+string(c)+w[i+1:])
				}
			}
			if i < len(w) {
				checkNearWord(t, w[:i]+w[i+1:])
			}
		}
		check(t, w+w, name(w+w, 0))
		check(t, w+"_", name(w+"_", 0))
		check(t, w+" "+w, word(w, 0), word(w, len(w)+1))
		checkWrong(t, "_"+w, 0)
	}
}

// notASCII tells letters, digits, blanks, signs that are none here, and texts that are no UTF-8.
func notASCII() []string {
	return []string{
		"é", "ß", "Ä", "ª", "º", "ａ", "Ａ", "ж", "Ж", "世", "𝒂", "𝐀", "ı", "ſ", "\u212a", "\u0301", "λ",
		"٣", "９", "²", "‿", "＿", "−", "→", "；", "😀",
		"\u00a0", "\u2003", "\u0085", "\u2028", "\ufeff", "\ufffd",
		"\x80", "\xff", "\xfe", "\xe4", "\xc3", "\xe1", "\xa0", "\x89", "\xbb",
		"\xc0\x80", "\xc1\xa1", "\xed\xa0\x80", "\xf0\x9f",
	}
}

func TestLettersThatAreNoASCII(t *testing.T) {
	for _, s := range notASCII() {
		for _, c := range []string{s, s + "a", "a" + s, "A" + s, "a" + s + "b", "A" + s + "b", s + s, "_" + s,
			"1" + s} {
			checkKind(t, c, 0)
		}
	}
}

func TestBlanksAreOfNoName(t *testing.T) {
	for _, s := range []string{" ", "\t", "\n", "\r", "\v", "\f", "\x00"} {
		for _, c := range []string{s, "a" + s, s + "a", "A" + s, s + "A", "a" + s + "b", s + "let", "let" + s} {
			checkKind(t, c, 0)
		}
	}
}

// Promise 9.2: what is there.

func TestLexExample(t *testing.T) {
	check(t, "let x=1;", word("let", 0), name("x", 4), sign("=", 5), num(1, 6), sign(";", 7))
}

func TestLexOfNothing(t *testing.T) {
	for _, s := range []string{"", " ", "\t", "\n", " \t\n \n\t\t  ", "--", "-- x", "--\n", "--\n--",
		" --x\n\t-- y \n\n"} {
		check(t, s)
	}
}

func TestLexOfAProgram(t *testing.T) {
	src := "data List a = Nil | Cons a (List a);\n" +
		"let map f l =\n\tcase l of { Nil -> Nil; Cons x r -> Cons (f x) (map f r) }; -- all\n" +
		"let k = \\x y->if true then (x,10) else(y,2);--end"
	var texts []string
	var kinds []int
	l, e, at := Lex(src)
	for i, x := range l {
		s := x.S
		if x.Kind == api.TInt {
			s = strconv.Itoa(x.N)
		}
		if !strings.HasPrefix(src[x.At:], s) || i > 0 && x.At <= l[i-1].At {
			t.Errorf("token %d is not at %d", i, x.At)
		}
		texts, kinds = append(texts, s), append(kinds, x.Kind)
	}
	want := strings.Fields("data List a = Nil | Cons a ( List a ) ; " +
		"let map f l = case l of { Nil -> Nil ; Cons x r -> Cons ( f x ) ( map f r ) } ; " +
		"let k = \\ x y -> if true then ( x , 10 ) else ( y , 2 ) ;")
	if e != api.OK || at != 0 || !slices.Equal(texts, want) {
		t.Errorf("error %d at %d, %q, want %q", e, at, texts, want)
	}
	n, c, i, w, s := api.TName, api.TCon, api.TInt, api.TWord, api.TSign
	wantKinds := []int{w, c, n, s, c, s, c, n, s, c, n, s, s,
		w, n, n, n, s, w, n, w, s, c, s, c, s, c, n, n, s, c, s, n, n, s, s, n, n, n, s, s, s,
		w, n, s, s, n, n, s, w, w, w, s, n, s, i, s, w, s, n, s, i, s, s}
	if !slices.Equal(kinds, wantKinds) {
		t.Errorf("kinds %v, want %v", kinds, wantKinds)
	}
}

// What no sentence gives a value has none: a number no text, a text no number.
func TestEachKindOfToken(t *testing.T) {
	check(t, "a", api.Tok{Kind: 1, At: 0, S: "a", N: 0})
	check(t, " A", api.Tok{Kind: 2, At: 1, S: "A", N: 0})
	check(t, "12", api.Tok{Kind: 3, At: 0, S: "", N: 12})
	check(t, " let", api.Tok{Kind: 4, At: 1, S: "let", N: 0})
	check(t, "->", api.Tok{Kind: 5, At: 0, S: "->", N: 0})
	check(t, "0 x 7 X 8 of 9 ; 6", num(0, 0), name("x", 2), num(7, 4), con("X", 6), num(8, 8), word("of", 10),
		num(9, 13), sign(";", 15), num(6, 17))
}

// Promise 9.2: how long it may be.

func TestLongestText(t *testing.T) {
	const most = 1 << 16
	blanks := strings.Repeat(" ", most-1)
	check(t, blanks)
	check(t, blanks+"\n")
	check(t, blanks+"x", name("x", most-1))
	check(t, "x"+blanks, name("x", 0))
	check(t, strings.Repeat("-", most))
	check(t, strings.Repeat("--\n", most/3)+"x", name("x", most-1))
	check(t, "--"+blanks[2:]+"\xff")
	checkWrong(t, blanks+"?", most-1)
	checkWrong(t, blanks+"-", most-1)
	checkWrong(t, blanks[1:]+"00", most-2)
	checkWrong(t, strings.Repeat("x", most), 0)
	checkWrong(t, strings.Repeat("1", most), 0)
	checkWrong(t, strings.Repeat("0", most), 0)
	checkWrong(t, strings.Repeat("_", most), 0)
	checkWrong(t, strings.Repeat(" ", most-31)+strings.Repeat("x", 31), most-31)
}

func TestOneByteTooMany(t *testing.T) {
	for _, c := range []string{" ", "\n", ";", "x", "x ", "-", "0", "1", "?", "\x00", "\xff", "_", "a-", "--\n"} {
		for _, n := range []int{1<<16 + 1, 1<<16 + 2, 1 << 17, 1<<17 + 1, 1 << 20} {
			checkArg(t, strings.Repeat(c, n)[:n])
		}
	}
	checkArg(t, strings.Repeat(" ", 1<<16)+"x")
	checkArg(t, "x"+strings.Repeat(" ", 1<<16))
	checkArg(t, "?"+strings.Repeat(" ", 1<<16))
	checkArg(t, strings.Repeat(" ", 1<<16)+"?")
	checkArg(t, "--"+strings.Repeat("x", 1<<16))
}

func TestMostTokens(t *testing.T) {
	var want []api.Tok
	for i := range 1 << 16 {
		want = append(want, sign(";", i))
	}
	check(t, strings.Repeat(";", 1<<16), want...)
	want = nil
	for i := 0; i < 1<<16; i += 2 {
		want = append(want, num(1, i), name("a", i+1))
	}
	checkWrong(t, strings.Repeat("1a", 1<<15), 1)
	for i := range want {
		want[i].At += i / 2
	}
	n := 1 << 16 / 3
	check(t, strings.Repeat("1a ", n), want[:2*n]...)
}

// Promise 9.2: blanks.

func TestBlanks(t *testing.T) {
	for _, s := range []string{" ", "\t", "\n", "  ", "\t\t", "\n\n", " \t\n", "\n\t ", strings.Repeat(" \n\t", 999)} {
		n := len(s)
		check(t, s)
		check(t, s+"x", name("x", n))
		check(t, "x"+s, name("x", 0))
		check(t, "x"+s+"y"+s+"1", name("x", 0), name("y", 1+n), num(1, 2+2*n))
		check(t, "1"+s+"2", num(1, 0), num(2, 1+n))
		check(t, "le"+s+"t", name("le", 0), name("t", 2+n))
		checkWrong(t, "-"+s+">", 0)
		checkWrong(t, "-"+s+"-", 0)
		checkWrong(t, s+"?"+s, n)
	}
}

func TestOtherBytesOfThatSort(t *testing.T) {
	for _, s := range []string{"\r", "\v", "\f", "\x00", "\xa0", "\u00a0", "\r\n", "\x01", "\b", "\x0e", "\x1f",
		"\x7f", "\u0085", "\u2003", "\u2028", "\ufeff"} {
		checkWrong(t, s, 0)
		checkWrong(t, s+"x", 0)
		checkWrong(t, "x"+s, 1)
		checkWrong(t, "x "+s+"y", 2)
		checkWrong(t, "\n\t "+s, 3)
		check(t, "--"+s+"\nx", name("x", 3+len(s)))
	}
}

// Promise 9.2: remarks.

func TestRemarks(t *testing.T) {
	for _, s := range []string{"--", "---", "----", "-----", "-->", "--->", "-- ", "--x", "--1", "--?", "--_", "--00",
		"-- a -- b", "-- ;->\\", "--\"'`", "--(", "--{-", "--\xff\x00\r\v", "--é", "--\t", "--\\n", "--let x = 1;",
		"--" + strings.Repeat("x", 31), "--" + strings.Repeat("9", 31)} {
		n := len(s)
		check(t, s)
		check(t, s+"\n")
		check(t, s+"\n\n"+s)
		check(t, s+s)
		check(t, s+"x")
		check(t, s+"\nx", name("x", n+1))
		check(t, s+"\n"+s+"\nx", name("x", 2*n+2))
		check(t, s+"\n \t->", sign("->", n+3))
		check(t, "x"+s, name("x", 0))
		check(t, "x "+s+"\ny", name("x", 0), name("y", n+3))
		check(t, "x"+s+"\ny"+s+"\n", name("x", 0), name("y", n+2))
		check(t, "1"+s+"\n2", num(1, 0), num(2, n+2))
		check(t, "->"+s+"\n->", sign("->", 0), sign("->", n+3))
		checkWrong(t, s+"\n?", n+1)
		checkWrong(t, s+"\n-", n+1)
		checkWrong(t, s+"\n"+s+"\n ?", 2*n+3)
		checkWrong(t, "? "+s, 0)
		checkWrong(t, "?"+s, 0)
	}
}

// A remark goes up to the next line end alone: no other byte ends it, and what is behind it counts.
func TestRemarkEndsAtALineEnd(t *testing.T) {
	eachByte(func(s string) {
		if s == "\n" {
			check(t, "--"+s+"x", name("x", 3))
			check(t, "--"+s+s+"x", name("x", 4))
			checkWrong(t, "--"+s+"?", 3)
		} else {
			check(t, "--"+s+"x?")
			check(t, "--a"+s+"b\nx", name("x", 6))
		}
	})
}

func TestMinusAlone(t *testing.T) {
	for _, s := range []string{"-", "- ", "- -", "-\n-", "-\t>", "-1", "-x", "-;", "-=", "-(", "-\xff", "-\x00",
		"-_", "- ->", "-\n--"} {
		checkWrong(t, s, 0)
		checkWrong(t, "x"+s, 1)
		checkWrong(t, " "+s, 1)
		checkWrong(t, "->"+s, 2)
	}
}

func TestArrows(t *testing.T) {
	check(t, "->", sign("->", 0))
	check(t, "->->", sign("->", 0), sign("->", 2))
	check(t, "-> ->", sign("->", 0), sign("->", 3))
	check(t, "->--", sign("->", 0))
	check(t, "->--\n->", sign("->", 0), sign("->", 5))
	check(t, "->-->", sign("->", 0))
	check(t, "-->")
	check(t, "-->\n->", sign("->", 4))
	check(t, "a->b", name("a", 0), sign("->", 1), name("b", 3))
	check(t, "1->2", num(1, 0), sign("->", 1), num(2, 3))
	check(t, "=->=", sign("=", 0), sign("->", 1), sign("=", 3))
	checkWrong(t, "->-", 2)
	checkWrong(t, "->-x", 2)
	checkWrong(t, "->>", 2)
	checkWrong(t, ">", 0)
	checkWrong(t, ">-", 0)
	checkWrong(t, "=>", 1)
	checkWrong(t, "<-", 0)
}

// Promise 9.2: rows of letters, digits, `_`.

func TestRows(t *testing.T) {
	check(t, "a", name("a", 0))
	check(t, "aB_9 Ca", name("aB_9", 0), con("Ca", 5))
	check(t, "a_ A_ a9 A9", name("a_", 0), con("A_", 3), name("a9", 6), con("A9", 9))
	check(t, "a1b2c3_4D", name("a1b2c3_4D", 0))
	check(t, "ofx of xof", name("ofx", 0), word("of", 4), name("xof", 7))
	check(t, "letx let1 let_ let", name("letx", 0), name("let1", 5), name("let_", 10), word("let", 15))
	check(t, "True true tRue", con("True", 0), word("true", 5), name("tRue", 10))
	for _, s := range []string{"_", "__", "_a", "_A", "_1", "_let", "_ ", "_;"} {
		checkWrong(t, s, 0)
		checkWrong(t, " "+s, 1)
		checkWrong(t, "a "+s, 2)
		checkWrong(t, ";"+s, 1)
		checkWrong(t, "1"+s, 1)
	}
}

func TestDigitsAndLettersNextToOneAnother(t *testing.T) {
	check(t, "12ab", num(12, 0), name("ab", 2))
	check(t, "12Ab", num(12, 0), con("Ab", 2))
	check(t, "1let", num(1, 0), word("let", 1))
	check(t, "1let2", num(1, 0), name("let2", 1))
	check(t, "0a", num(0, 0), name("a", 1))
	check(t, "0x1F", num(0, 0), name("x1F", 1))
	check(t, "1e5", num(1, 0), name("e5", 1))
	check(t, "2147483647x", num(math.MaxInt32, 0), name("x", 10))
	check(t, "ab12", name("ab12", 0))
	check(t, "ab12 34", name("ab12", 0), num(34, 5))
	checkWrong(t, "12_", 2)
	checkWrong(t, "1_000", 1)
	checkWrong(t, "0_", 1)
	checkWrong(t, "00a", 0)
	checkWrong(t, "1a 00a", 3)
	checkWrong(t, "2147483648x", 0)
	check(t, "1"+strings.Repeat("x", 30), num(1, 0), name(strings.Repeat("x", 30), 1))
	checkWrong(t, "1"+strings.Repeat("x", 31), 1)
	check(t, "x"+strings.Repeat("0", 29), name("x"+strings.Repeat("0", 29), 0))
	checkWrong(t, "x"+strings.Repeat("0", 30), 0)
}

func TestRowsOf30BytesAnd31(t *testing.T) {
	for _, n := range []int{1, 2, 29, 30} {
		for _, c := range "ax_9Z" {
			s := strings.Repeat(string(c), n-1)
			check(t, "x"+s, name("x"+s, 0))
			check(t, "X"+s, con("X"+s, 0))
			check(t, " x"+s+";", name("x"+s, 1), sign(";", n+1))
			check(t, "(X"+s+" x"+s+")", sign("(", 0), con("X"+s, 1), name("x"+s, n+2), sign(")", 2*n+2))
			check(t, "x"+s+"--"+s, name("x"+s, 0))
		}
	}
	for _, n := range []int{31, 32, 60, 61, 62, 64, 256, 257, 256 + 30, 65536 - 40} {
		for _, c := range "ax_9Z" {
			s := strings.Repeat(string(c), n-1)
			checkWrong(t, "x"+s, 0)
			checkWrong(t, "X"+s, 0)
			checkWrong(t, " x"+s+";", 1)
			checkWrong(t, "(X"+s+")", 1)
			checkWrong(t, "a "+"x"+s+" ?", 2)
			checkWrong(t, "--\n\tx"+s, 4)
		}
	}
	// A row is no two tokens, though its front would be one, or its end.
	checkWrong(t, "let"+strings.Repeat("x", 28), 0)
	checkWrong(t, strings.Repeat("x", 30)+"let", 0)
	checkWrong(t, strings.Repeat("x", 30)+"1", 0)
	check(t, strings.Repeat("x", 30)+" "+strings.Repeat("x", 30), name(strings.Repeat("x", 30), 0),
		name(strings.Repeat("x", 30), 31))
	check(t, strings.Repeat("x", 30)+"->", name(strings.Repeat("x", 30), 0), sign("->", 30))
}

// Of a row Lex tells what Name and Con tell.
func TestLexOfARowIsNameOrCon(t *testing.T) {
	next := plays.Below(91)
	for range 20000 {
		s := string((lowers + uppers)[next(52)])
		for range next(35) {
			s += string((lowers + uppers + digits + "_")[next(63)])
		}
		l, e, _ := Lex(s)
		is := e == api.OK && len(l) == 1 && l[0].S == s
		if Name(s) != (is && l[0].Kind == api.TName) || Con(s) != (is && l[0].Kind == api.TCon) {
			t.Fatalf("%s: Name %v, Con %v, %s", said(s), Name(s), Con(s), saidTokens(l))
		}
	}
}

// Promise 9.2: numbers.

func TestNumbers(t *testing.T) {
	for _, n := range []int{0, 1, 2, 9, 10, 11, 19, 20, 99, 100, 101, 255, 256, 1000, 12345, 65535, 65536, 99999,
		1000000, 123456789, 999999999, 1000000000, 1234567890, 1999999999, 2000000000,
		2147483639, 2147483640, 2147483646, 2147483647} {
		s := strconv.Itoa(n)
		check(t, s, num(n, 0))
		check(t, s+";", num(n, 0), sign(";", len(s)))
		check(t, " "+s+"\n", num(n, 1))
		check(t, "x("+s+","+s+")", name("x", 0), sign("(", 1), num(n, 2), sign(",", 2+len(s)), num(n, 3+len(s)),
			sign(")", 3+2*len(s)))
		checkWrong(t, "0"+s, 0)
		checkWrong(t, "x 0"+s, 2)
		checkWrong(t, "000000"+s, 0)
		checkWrong(t, "-"+s, 0)
	}
	for d, c := range digits {
		check(t, string(c), num(d, 0))
		check(t, "1"+string(c), num(10+d, 0))
		check(t, "3"+string(c)+"7", num(307+10*d, 0))
	}
}

func TestNumbersThatAreTooGreat(t *testing.T) {
	for _, s := range []string{
		"2147483648", "2147483649", "2147483650", "2147483657", "2147484647", "2200000000", "3000000000",
		"4294967295", "4294967296", "4294967297", "4294967301", "9999999999",
		"10000000000", "21474836470", "21474836480", "99999999999",
		"9223372036854775807", "9223372036854775808", "9223372036854775809",
		"18446744073709551615", "18446744073709551616", "18446744073709551617", "18446744073709551626",
		"36893488147419103233", "340282366920938463463374607431768211457",
		strings.Repeat("9", 29), strings.Repeat("9", 30), strings.Repeat("9", 31), strings.Repeat("1", 1000),
		"1" + strings.Repeat("0", 64), "1" + strings.Repeat("0", 65000),
		"18446744073709551616" + strings.Repeat("0", 100) + "5",
	} {
		checkWrong(t, s, 0)
		checkWrong(t, s+" 1", 0)
		checkWrong(t, "1 "+s, 2)
		checkWrong(t, "x;\n--\n"+s+"?", 6)
	}
}

func TestNoughtsAhead(t *testing.T) {
	check(t, "0", num(0, 0))
	check(t, "0 0", num(0, 0), num(0, 2))
	check(t, "(0,0)", sign("(", 0), num(0, 1), sign(",", 2), num(0, 3), sign(")", 4))
	check(t, "10 100", num(10, 0), num(100, 3))
	for _, s := range []string{"00", "01", "000", "001", "010", "09", "0000000000", "00000000001", "02147483647",
		"02147483648", strings.Repeat("0", 30), strings.Repeat("0", 31), strings.Repeat("0", 65000),
		strings.Repeat("0", 300) + "1"} {
		checkWrong(t, s, 0)
		checkWrong(t, "0 "+s, 2)
		checkWrong(t, "a;"+s+";", 2)
	}
}

func TestDrawnNumbers(t *testing.T) {
	next := plays.Below(92)
	for range 20000 {
		n := next(1<<31-1) >> next(31)
		s := strconv.Itoa(n)
		check(t, s, num(n, 0))
		checkPlain(t, s+strconv.Itoa(next(1000)))
		checkPlain(t, strconv.Itoa(next(5))+strconv.Itoa(next(1<<31-1)))
	}
}

// Promise 9.2: signs, and each byte that is none.

func TestEachSign(t *testing.T) {
	for _, s := range signs() {
		n := len(s)
		check(t, s, sign(s, 0))
		check(t, s+s, sign(s, 0), sign(s, n))
		check(t, "x"+s+"y", name("x", 0), sign(s, 1), name("y", 1+n))
		check(t, "1"+s+"2", num(1, 0), sign(s, 1), num(2, 1+n))
		check(t, " "+s+" ", sign(s, 1))
		check(t, "--"+s+"\n"+s+"--"+s, sign(s, 3+n))
		for _, r := range signs() {
			check(t, s+r, sign(s, 0), sign(r, n))
			check(t, s+" "+r+s, sign(s, 0), sign(r, n+1), sign(s, n+1+len(r)))
		}
	}
	check(t, "(|),{};=\\", sign("(", 0), sign("|", 1), sign(")", 2), sign(",", 3), sign("{", 4), sign("}", 5),
		sign(";", 6), sign("=", 7), sign("\\", 8))
}

func TestEachByteAlone(t *testing.T) {
	eachByte(func(s string) {
		switch {
		case strings.Contains(" \t\n", s):
			check(t, s)
			check(t, "x"+s+"y", name("x", 0), name("y", 2))
		case strings.Contains(lowers, s):
			check(t, s, name(s, 0))
			check(t, "x"+s+"y", name("x"+s+"y", 0))
		case strings.Contains(uppers, s):
			check(t, s, con(s, 0))
			check(t, "x"+s+"y", name("x"+s+"y", 0))
		case strings.Contains(digits, s):
			check(t, s, num(int(s[0])-48, 0))
			check(t, "x"+s+"y", name("x"+s+"y", 0))
		case slices.Contains(signs(), s):
			check(t, s, sign(s, 0))
			check(t, "x"+s+"y", name("x", 0), sign(s, 1), name("y", 2))
		case s == "_":
			checkWrong(t, s, 0)
			check(t, "x"+s+"y", name("x_y", 0))
		default:
			checkWrong(t, s, 0)
			checkWrong(t, "x"+s+"y", 1)
			checkWrong(t, "x;"+s, 2)
			checkWrong(t, s+" "+s, 0)
		}
	})
}

func TestEachTwoBytes(t *testing.T) {
	eachByte(func(a string) {
		eachByte(func(b string) {
			checkPlain(t, a+b)
		})
	})
}

func TestLexOfWhatIsNoASCII(t *testing.T) {
	for _, s := range notASCII() {
		checkWrong(t, s, 0)
		checkWrong(t, "a"+s, 1)
		checkWrong(t, "A1"+s+"b", 2)
		checkWrong(t, "\n; "+s, 3)
		checkWrong(t, "12"+s, 2)
		check(t, "--"+s)
		check(t, "--"+s+"\na", name("a", 3+len(s)))
	}
}

// Promise 9.2: what is told of what is wrong.

// wrongs tells things that are no token.
func wrongs() []string {
	return []string{"?", "-", "_", "_a", "00", "01", "2147483648", strings.Repeat("x", 31), strings.Repeat("X", 31),
		">", "\"", "\r", "\x00", "\xff", "é"}
}

func TestPlaceOfWhatIsWrong(t *testing.T) {
	for _, s := range wrongs() {
		for _, ahead := range []string{"", " ", "\t", "\n", "  \n\t ", "--\n", "-- x\n", "--?\n--\n", "x ",
			"let x = 1; ", "1 ", "->", "->\n", "(--x\n", strings.Repeat("x", 30) + "\t",
			strings.Repeat(" ", 60000), strings.Repeat("x ", 30000),
			"--" + strings.Repeat("x", 60000) + "\n"} {
			checkWrong(t, ahead+s, len(ahead))
			for _, behind := range []string{" ", "\n", ";", " x", " 00", " ?", "\n-- x", " let",
				strings.Repeat("\n", 1000)} {
				checkWrong(t, ahead+s+behind, len(ahead))
			}
		}
	}
}

func TestFirstOfWhatIsWrongCounts(t *testing.T) {
	for _, a := range wrongs() {
		for _, b := range wrongs() {
			checkWrong(t, a+" "+b, 0)
			checkWrong(t, "x "+a+" y "+b+" z", 2)
			checkWrong(t, "--"+b+"\n"+a+"\n"+b, len(b)+3)
		}
	}
}

func TestPlaceOfEachToken(t *testing.T) {
	l := []api.Tok{name("x", 0), name(strings.Repeat("x", 30), 0), con("X", 0), word("let", 0), sign("->", 0),
		sign(";", 0), num(0, 0), num(math.MaxInt32, 0)}
	for _, x := range l {
		for _, ahead := range []string{"", " ", "\t", "\n", " \n \t", "--\n", "--x\n", "--->\n", "--\n--\n ",
			strings.Repeat(" ", 60000), "--" + strings.Repeat("?", 60000) + "\n"} {
			x.At = len(ahead)
			check(t, ahead+text(x), x)
			y := x
			y.At = len(ahead) + len(text(x)) + 1 + len(ahead)
			if y.At+len(text(y)) <= api.MaxSrc {
				check(t, ahead+text(x)+"\n"+ahead+text(y), x, y)
			}
		}
	}
}

// text tells a token as it stands in a program.
func text(x api.Tok) string {
	if x.Kind == api.TInt {
		return strconv.Itoa(x.N)
	}
	return x.S
}

// Promise 9.2: all short texts, and drawn ones.

// bytesOf tells the bytes of s as a list of numbers.
func bytesOf(s string) []int {
	var l []int
	for i := range len(s) {
		l = append(l, int(s[i]))
	}
	return l
}

// ofBytes tells the text that has those bytes.
func ofBytes(l []int) string {
	var s []byte
	for _, b := range l {
		s = append(s, byte(b))
	}
	return string(s)
}

func TestAllShortTexts(t *testing.T) {
	for n := range 6 {
		lists.Each(n, bytesOf("aA_01-> \n;?"), func(l []int) { checkPlain(t, ofBytes(l)) })
	}
	for n := range 8 {
		lists.Each(n, bytesOf("->\na"), func(l []int) { checkPlain(t, ofBytes(l)) })
		lists.Each(n, bytesOf("if 1"), func(l []int) { checkPlain(t, ofBytes(l)) })
	}
}

func TestDrawnBytes(t *testing.T) {
	next := plays.Below(93)
	for range 20000 {
		s := make([]byte, next(12))
		for i := range s {
			s[i] = byte(next(256))
		}
		checkPlain(t, string(s))
	}
}

func TestDrawnPieces(t *testing.T) {
	pieces := slices.Concat(words(), signs(), wrongs(),
		strings.Split("a|B|xs|x_1|Nil|0|7|12|2147483647|--|-- x\n|--\n", "|"),
		[]string{" ", "\n", "\t", " ", "\n", "a", "1", strings.Repeat("y", 15), strings.Repeat("Y", 16),
			strings.Repeat("3", 9)})
	may := slices.DeleteFunc(slices.Clone(pieces), func(s string) bool { return slices.Contains(wrongs(), s) })
	next := plays.Below(94)
	for _, l := range [][]string{pieces, may} {
		for range 10000 {
			s := ""
			for range next(20) {
				s += l[next(len(l))]
			}
			checkPlain(t, s)
		}
	}
}

// Promise 9.3.

// betweens tells what may stand between two tokens and change nothing but places.
func betweens() []string {
	return []string{" ", "\t", "\n", "  ", "\n\n", " \t\n", "--\n", "-- x\n", " --\n", "---\n", "-->\n", "--\n--\n",
		" -- ?\n\t--\xff\n\n", "--let x = 1;\n ", strings.Repeat(" ", 500), strings.Repeat("--x\n", 99)}
}

// apart tells whether a and b are other tokens if nothing is between them.
func apart(a, b api.Tok) bool {
	row := a.Kind == api.TName || a.Kind == api.TCon || a.Kind == api.TWord
	return b.Kind != api.TSign && row || a.Kind == api.TInt && b.Kind == api.TInt
}

// drawnTokens tells some tokens, none with a place.
func drawnTokens(next func(int) int) []api.Tok {
	var l []api.Tok
	for range next(30) {
		switch next(5) {
		case 0:
			l = append(l, name([]string{"x", "f_1", "lets", strings.Repeat("a", 30)}[next(4)], 0))
		case 1:
			l = append(l, con([]string{"X", "Nil_", "Let", strings.Repeat("A", 30)}[next(4)], 0))
		case 2:
			l = append(l, num([]int{0, 1, 90, math.MaxInt32}[next(4)], 0))
		case 3:
			l = append(l, word(words()[next(10)], 0))
		default:
			l = append(l, sign(signs()[next(10)], 0))
		}
	}
	return l
}

// laid tells those tokens as a text, with what between tells between them, and the tokens with their places in it.
func laid(l []api.Tok, between func(must bool) string) (string, []api.Tok) {
	src, l := between(false), slices.Clone(l)
	for i := range l {
		if i > 0 {
			src += between(apart(l[i-1], l[i]))
		}
		l[i].At = len(src)
		src += text(l[i])
	}
	return src + between(false), l
}

func TestBlanksAndRemarksChangeNothingButPlaces(t *testing.T) {
	next := plays.Below(95)
	drawn := func() string { return betweens()[next(len(betweens()))] }
	onlyIf := func(is bool) string {
		if is {
			return drawn()
		}
		return ""
	}
	ways := []func(must bool) string{
		onlyIf,
		func(must bool) string { return onlyIf(must || next(3) == 0) },
		func(bool) string { return drawn() },
		func(bool) string { return drawn() + drawn() + drawn() },
	}
	for range 1000 {
		l := drawnTokens(next)
		for _, between := range ways {
			src, want := laid(l, between)
			check(t, src, want...)
			check(t, src+"--?", want...)
		}
	}
}

func TestEachBetweenEachTwoTokens(t *testing.T) {
	l := []api.Tok{name("x", 0), con("X", 0), num(0, 0), num(12, 0), word("let", 0)}
	for _, s := range signs() {
		l = append(l, sign(s, 0))
	}
	for _, a := range l {
		for _, b := range l {
			for _, s := range betweens() {
				src, want := laid([]api.Tok{a, b}, func(bool) string { return s })
				check(t, src, want...)
			}
			if !apart(a, b) {
				src, want := laid([]api.Tok{a, b}, func(bool) string { return "" })
				check(t, src, want...)
			}
		}
	}
}

// Within a token they are not between tokens: there are two, or something is wrong.
func TestBlanksWithinATokenChangeIt(t *testing.T) {
	for _, s := range betweens() {
		n := len(s)
		check(t, "le"+s+"t", name("le", 0), name("t", 2+n))
		check(t, "1"+s+"0", num(1, 0), num(0, 1+n))
		check(t, "X"+s+"x", con("X", 0), name("x", 1+n))
		check(t, strings.Repeat("x", 30)+s+"x", name(strings.Repeat("x", 30), 0), name("x", 30+n))
		check(t, "0"+s+"0", num(0, 0), num(0, 1+n))
		if s[0] != '-' {
			checkWrong(t, "-"+s+">", 0)
			checkWrong(t, "-"+s+"-", 0)
		}
	}
}

// R1.

func TestTheSameAgain(t *testing.T) {
	for _, src := range []string{"", "let x = (\\y -> y, 12); -- z", "data L a = N | C a (L a);", "a ?",
		strings.Repeat("x", 31), strings.Repeat(" ", 1<<16+1)} {
		l, e, at := Lex(src)
		for range 20 {
			Lex("other 99 { } -")
			Name(src)
			if m, f, there := Lex(src); !slices.Equal(l, m) || f != e || there != at {
				t.Errorf("%s: another answer", said(src))
			}
			if again := string([]byte(src)); Name(again) != Name(src) || Con(again) != Con(src) {
				t.Errorf("%s in other memory: another answer", said(src))
			}
		}
	}
}

func TestWhateverIsHandedIn(t *testing.T) {
	next := plays.Below(96)
	for _, n := range []int{0, 1, 2, 31, 1000, 1<<16 - 1, 1 << 16, 1<<16 + 1, 1 << 20} {
		for b := range 256 {
			s := strings.Repeat(string([]byte{byte(b)}), n)
			if n <= 1000 || b%16 == 0 {
				checkPlain(t, s)
				checkKind(t, s, plainKind(s))
			}
		}
		s := make([]byte, n)
		for i := range s {
			s[i] = byte(next(256))
		}
		checkPlain(t, string(s))
		checkPlain(t, "--"+string(s))
		checkKind(t, string(s), plainKind(string(s)))
	}
}

func TestGreatTexts(t *testing.T) {
	s := strings.Repeat("x", 1<<25)
	checkKind(t, s, 0)
	checkArg(t, s)
}

// R3: what is told is new memory.

func TestWritingIntoTokensChangesNothing(t *testing.T) {
	src := "let f x = (\\y -> Y y 12, 7); -- z"
	one, _, _ := Lex(src)
	other, _, _ := Lex(src)
	want := slices.Clone(one)
	lists.Scribble(append(one, name("no", 77)), name("no", 77))
	lists.Scribble(one, name("no", 77))
	if !slices.Equal(other, want) {
		t.Errorf("what was told became %s", saidTokens(other))
	}
	check(t, src, want...)
	check(t, ";", sign(";", 0))
}

// A text that is told is no piece of the one that was handed in.
func TestTextsOfTokensAreNoPieces(t *testing.T) {
	src := "let f x = (\\y -> Y y 12, " + strings.Repeat("x", 30) + ");"
	low := uintptr(unsafe.Pointer(unsafe.StringData(src)))
	l, _, _ := Lex(src)
	for _, x := range l {
		if at := uintptr(unsafe.Pointer(unsafe.StringData(x.S))); at >= low && at < low+uintptr(len(src)) {
			t.Errorf("%+v is a piece of what was handed in", x)
		}
	}
}
