package term

import "warp/api"

const (
	arrow = "->"
	comma = ","

	mostBytes = 30  // of a name
	mostKids  = 20  // of a name
	mostDeep  = 100 // of a type
)

// mayBe tells whether t is a type that is at most so deep.
func mayBe(t api.Type, deep int) bool {
	if deep == 0 || !mayNode(t) {
		return false
	}
	for _, kid := range t.Kids {
		if !mayBe(kid, deep-1) {
			return false
		}
	}
	return true
}

// mayNode tells whether t may be, but for what its Kids are.
func mayNode(t api.Type) bool {
	switch t.Kind {
	case api.YVar:
		return 0 <= t.N && t.N <= api.MaxInt && t.Name == "" && len(t.Kids) == 0
	case api.YCon:
		return t.N == 0 && mayHave(t.Name, len(t.Kids))
	}
	return false
}

// mayHave tells whether one of that name may have so many Kids.
func mayHave(name string, kids int) bool {
	switch name {
	case arrow:
		return kids == 2
	case comma:
		return 2 <= kids && kids <= api.MaxTuple
	}
	return isCon(name) && kids <= mostKids
}

// isCon tells whether s is a name: a letter A to Z, then letters, digits, `_`.
func isCon(s string) bool {
	if s == "" || len(s) > mostBytes || !isUpper(s[0]) {
		return false
	}
	for i := range len(s) {
		if !isOfName(s[i]) {
			return false
		}
	}
	return true
}

func isUpper(b byte) bool  { return 'A' <= b && b <= 'Z' }
func isLower(b byte) bool  { return 'a' <= b && b <= 'z' }
func isDigit(b byte) bool  { return '0' <= b && b <= '9' }
func isOfName(b byte) bool { return isUpper(b) || isLower(b) || isDigit(b) || b == '_' }

// nodes tells how many nodes t has: most, if it has as many or more. It looks at no more of them, as what may not be
// may have any number.
func nodes(t api.Type, most int) int {
	n := 1
	for _, kid := range t.Kids {
		if n == most {
			break
		}
		n += nodes(kid, most-n)
	}
	return n
}
