package hash

import (
	"math"
	"strings"
	"testing"

	"warp/api"
	"warp/plays"
)

// plainSum is Sum in numbers that are wide enough: no wrap-round, no shift.
func plainSum(bytes []byte) uint32 {
	sum := uint64(2166136261)
	for _, b := range bytes {
		low := sum % 256
		sum = (sum - low + (low ^ uint64(b))) * 16777619 % (1 << 32)
	}
	return uint32(sum)
}

// plainBytes tells n's lowest 32 bits as 4 bytes, the lowest first, by division alone.
func plainBytes(n int) []byte {
	n %= 1 << 32
	if n < 0 {
		n += 1 << 32
	}
	return []byte{byte(n % 256), byte(n / 256 % 256), byte(n / 65536 % 256), byte(n / 16777216)}
}

// plainOf is Of by the bytes in one list.
func plainOf(k api.Key) uint32 {
	bytes := append([]byte(k.Name), plainBytes(k.A)...)
	return plainSum(append(bytes, plainBytes(k.B)...))
}

// plainStripe is Stripe, its cuts one by one.
func plainStripe(k api.Key, stripes int) int {
	if stripes < 1 {
		stripes = 1
	}
	if stripes > 64 {
		stripes = 64
	}
	return int(int64(plainOf(k)) % int64(stripes))
}

// texts are ordinary ones, ones that are no UTF-8, and long ones.
func texts() []string {
	return []string{
		"", "a", "b", "ab", "ba", "let", "->", ",", "Int", "a longer text, with blanks\tand\nlines",
		"\x00", "\xff", "\x00\x00", "a\x00", "\x00a", "a\xff", "\xffa", "a\x00b", "a\xffb", "\xff\x00\x80",
		"\xc3\x28", "\xed\xa0\x80", "\xf0\x9f", "\xc0\x80", "\x80", "é世😀", "\ufffd",
		eachByte(), strings.Repeat("x", 1000), strings.Repeat("\x00", 1<<16), strings.Repeat("\xff\x01", 1<<12+1),
	}
}

// eachByte tells a text of all bytes, one behind the other.
func eachByte() string {
	var s []byte
	for b := range 256 {
		s = append(s, byte(b))
	}
	return string(s)
}

// numbers are A's and B's: of 0, below 0, of more than 32 bits, with each of the four bytes alone.
func numbers() []int {
	return []int{
		0, 1, 2, 5, 255, 256, 257, 1 << 16, 1 << 24, 0x7f, 0x80, 0x8000, 0x800000, 0xff00, 0xff0000, 0xff000000,
		0x01020304, 0x04030201, 1<<31 - 1, 1 << 31, 1<<31 + 1, 1<<32 - 1, 1 << 32, 1<<32 + 5, 1 << 40, 1<<63 - 1,
		-1, -2, -255, -256, -1 << 16, -1 << 31, -1<<31 - 1, -1<<32 + 1, -1 << 32, -1<<32 - 5, math.MinInt,
	}
}

// keys calls f with keys of some names, and all numbers.
func keys(f func(api.Key)) {
	for _, name := range []string{"", "n", "->", ",", "Tree", "\x00", "\x01\x00\x00\x00", "\xff\x80", eachByte()} {
		for _, a := range numbers() {
			for _, b := range numbers() {
				f(api.Key{Name: name, A: a, B: b})
			}
		}
	}
}

// seen is sums, each once.
type seen map[uint32]struct{}

func (s seen) add(sum uint32) { s[sum] = struct{}{} }

// sumOf is a text, and its Sum.
type sumOf struct {
	s    string
	want uint32
}

// checkSums checks that Sum tells what is wanted.
func checkSums(t *testing.T, l []sumOf) {
	t.Helper()
	for _, c := range l {
		if got := Sum(c.s); got != c.want {
			t.Errorf("Sum of %.12q, of %d bytes: got %d, want %d", c.s, len(c.s), got, c.want)
		}
	}
}

// Promise 7.1, Sum. The numbers were worked out by another program.

func TestSum(t *testing.T) {
	checkSums(t, []sumOf{
		{"", 2166136261}, {"a", 3826002220}, {"b", 3876335077}, {"c", 3859557458}, {"ab", 1294271946},
		{"ba", 1009493708}, {"foobar", 3214735720}, {"let", 1349190650}, {"->", 298648946}, {",", 688690635},
		{strings.Repeat("x", 1000), 131170661}, {strings.Repeat("xyz", 100000), 1358767973},
	})
}

func TestSumOfTheLeastAndTheGreatestByte(t *testing.T) {
	checkSums(t, []sumOf{
		{"\x00", 84696351}, {"\xff", 2047574606}, {"\x00\x00", 292984781}, {"a\x00", 723832900},
		{"\x00a", 1886858586}, {"\xffa", 1327362045}, {"a\xff", 3525695273}, {"a\x00b", 284404690},
		{"a\xffb", 479324945}, {strings.Repeat("\x00", 1<<16), 1582341573},
	})
}

// A text counts by its bytes, whether they are letters or not.
func TestSumOfBytesThatAreNoLetters(t *testing.T) {
	checkSums(t, []sumOf{
		{"\xff\x00\x80", 2741818494}, {"\xc3\x28", 2644319662}, {"\xed\xa0\x80", 1973925784}, {"\xf0\x9f", 823298000},
		{"\ufffd", 55024714}, {"é世😀", 901539252}, {eachByte(), 2426689733},
	})
}

func TestSumOfEachByteAnywhere(t *testing.T) {
	for b := range 256 {
		one := string([]byte{byte(b)})
		for _, s := range []string{one, one + "ab", "a" + one + "b", "ab" + one, one + one, one + "\x00" + one + "\xff"} {
			checkSums(t, []sumOf{{s, plainSum([]byte(s))}})
		}
	}
}

func TestSumOfTexts(t *testing.T) {
	for _, s := range texts() {
		for _, r := range texts() {
			checkSums(t, []sumOf{{s + r, plainSum([]byte(s + r))}})
		}
	}
}

func TestSumOfDrawnTexts(t *testing.T) {
	next := plays.Below(7)
	for range 500 {
		s := make([]byte, next(300))
		for i := range s {
			s[i] = byte(next(256))
		}
		checkSums(t, []sumOf{{string(s), plainSum(s)}})
	}
}

// ofKey is a key, and its number.
type ofKey struct {
	k    api.Key
	want uint32
}

// checkKeys checks that Of tells what is wanted.
func checkKeys(t *testing.T, l []ofKey) {
	t.Helper()
	for _, c := range l {
		if got := Of(c.k); got != c.want {
			t.Errorf("Of(%#v) = %d, want %d", c.k, got, c.want)
		}
	}
}

// Promise 7.1, Of.

func TestOf(t *testing.T) {
	checkKeys(t, []ofKey{
		{api.Key{}, 2615243109}, {api.Key{Name: "n"}, 1736567121}, {api.Key{Name: "List", A: 7, B: 12345}, 3444284543},
		{api.Key{Name: "->", A: -1, B: 0x01020304}, 3010255898}, {api.Key{A: 5}, 3371865536}, {api.Key{B: 5}, 184825360},
		{api.Key{Name: "\xff\x00", A: 0x80, B: 0xff00}, 4098395179}, {api.Key{A: 1<<31 - 1, B: -1}, 3502993885},
	})
}

func TestOfWithAAndBExchanged(t *testing.T) {
	checkKeys(t, []ofKey{{api.Key{Name: "n", A: 1, B: 2}, 2860058706}, {api.Key{Name: "n", A: 2, B: 1}, 3524814978}})
}

func TestOfEachOfTheFourBytesAlone(t *testing.T) {
	for i, want := range []uint32{1048580676, 1737233514, 2676717932, 1429875106} {
		checkKeys(t, []ofKey{{api.Key{A: 1 << (8 * i)}, want}})
	}
	for i, want := range []uint32{1270166100, 1559936538, 1977546492, 2598465490} {
		checkKeys(t, []ofKey{{api.Key{B: 1 << (8 * i)}, want}})
	}
}

// Bits above the lowest 32 don't count; the highest of these does.
func TestOfTheLowest32Bits(t *testing.T) {
	checkKeys(t, []ofKey{
		{api.Key{A: 1<<32 + 5, B: 1 << 40}, 3371865536}, {api.Key{A: 5 - 1<<32, B: math.MinInt}, 3371865536},
		{api.Key{A: 1 << 31}, 1211994085}, {api.Key{A: -1 << 31}, 1211994085}, {api.Key{A: 1<<40 + 1<<31}, 1211994085},
		{api.Key{B: 1 << 31}, 467811045}, {api.Key{B: -1 << 31}, 467811045}, {api.Key{B: -1 << 32}, 2615243109},
		{api.Key{A: 1<<32 - 1, B: -1}, 1823345245}, {api.Key{A: -1, B: math.MaxInt}, 1823345245},
		{api.Key{A: math.MinInt, B: math.MaxInt}, 3025216001},
	})
}

func TestOfKeys(t *testing.T) {
	keys(func(k api.Key) {
		checkKeys(t, []ofKey{{k, plainOf(k)}})
	})
}

// A key is no more than the bytes of its parts, one part behind the other.
func TestOfIsASum(t *testing.T) {
	for _, s := range texts() {
		if got, want := Of(api.Key{Name: s, A: 0x64636261, B: -256}), Sum(s+"abcd\x00\xff\xff\xff"); got != want {
			t.Errorf("Of a key of name %.12q: got %d, want %d", s, got, want)
		}
	}
	if Of(api.Key{Name: "n\x01\x00\x00\x00", A: 2}) != Sum("n\x01\x00\x00\x00\x02\x00\x00\x00\x00\x00\x00\x00") {
		t.Error("Of a key whose name ends as a number does")
	}
}

// Promise 7.1, Stripe.

func TestStripe(t *testing.T) {
	for _, c := range []struct {
		k                    api.Key
		of64, of63, of7, of3 int
	}{
		{api.Key{}, 37, 24, 3, 0}, {api.Key{Name: "n"}, 17, 30, 2, 0}, {api.Key{Name: "n", A: 1, B: 2}, 18, 15, 1, 0},
		{api.Key{Name: "n", A: 2, B: 1}, 2, 6, 6, 0}, {api.Key{A: 1<<32 - 1, B: -1}, 29, 1, 1, 1},
		{api.Key{Name: "->", A: -1, B: 0x01020304}, 26, 41, 6, 2}, {api.Key{A: 1<<32 + 5, B: 1 << 40}, 0, 11, 4, 2},
		{api.Key{Name: "\xff\x00", A: 0x80, B: 0xff00}, 43, 46, 4, 1},
		{api.Key{Name: "List", A: 7, B: 12345}, 63, 14, 0, 2},
	} {
		for stripes, want := range map[int]int{64: c.of64, 63: c.of63, 7: c.of7, 3: c.of3, 2: c.of64 % 2, 32: c.of64 % 32} {
			if got := Stripe(c.k, stripes); got != want {
				t.Errorf("Stripe(%#v, %d) = %d, want %d", c.k, stripes, got, want)
			}
		}
	}
}

// Below 1 there is one stripe, above 64 there are 64, however far away.
func TestStripeOfStripesThatAreCut(t *testing.T) {
	for _, stripes := range []int{1, 0, -1, -2, -7, -64, -1 << 31, -1<<32 + 7, -1 << 32, math.MinInt, math.MinInt + 7} {
		for a := range 100 {
			if got := Stripe(api.Key{A: a}, stripes); got != 0 {
				t.Errorf("Stripe of %d, %d stripes: got %d, want 0", a, stripes, got)
			}
		}
	}
	for _, stripes := range []int{64, 65, 66, 127, 128, 1 << 8, 1<<8 + 1, 1 << 16, 1<<31 - 1, 1 << 31, 1<<32 + 1,
		1<<32 + 7, 1<<32 - 1, 1 << 32, 1 << 40, math.MaxInt} {
		for a := range 100 {
			if got, want := Stripe(api.Key{A: a}, stripes), plainStripe(api.Key{A: a}, 64); got != want {
				t.Errorf("Stripe of %d, %d stripes: got %d, want %d", a, stripes, got, want)
			}
		}
	}
}

func TestStripeOfKeys(t *testing.T) {
	keys(func(k api.Key) {
		for _, stripes := range []int{-1 << 40, -3, 0, 1, 2, 3, 5, 7, 33, 48, 63, 64, 65, 66, 100, 1 << 40} {
			got, want := Stripe(k, stripes), plainStripe(k, stripes)
			if got != want {
				t.Fatalf("Stripe(%#v, %d) = %d, want %d", k, stripes, got, want)
			}
			if got < 0 || got >= 64 || got >= max(stripes, 1) {
				t.Fatalf("Stripe(%#v, %d) = %d, which is no stripe", k, stripes, got)
			}
		}
	})
}

func TestStripeOfEachNumberOfStripes(t *testing.T) {
	for stripes := -70; stripes <= 140; stripes++ {
		reached := make([]bool, min(max(stripes, 1), 64))
		for a := range 1 << 11 {
			k := api.Key{Name: "k", A: a, B: a * 31}
			got := Stripe(k, stripes)
			if got < 0 || got >= len(reached) || got != plainStripe(k, stripes) {
				t.Fatalf("Stripe(%#v, %d) = %d, want %d", k, stripes, got, plainStripe(k, stripes))
			}
			reached[got] = true
		}
		for i, is := range reached {
			if !is {
				t.Fatalf("of %d stripes no key is in %d", stripes, i)
			}
		}
	}
}

// Promise 7.2.

// checkEachByte checks that the text has as many Sums as there are bytes that can stand at i.
func checkEachByte(t *testing.T, s string, i int) {
	t.Helper()
	sums := seen{}
	for b := range 256 {
		sums.add(Sum(s[:i] + string([]byte{byte(b)}) + s[i+1:]))
	}
	if len(sums) != 256 {
		t.Errorf("%.12q, of %d bytes, has %d sums for the bytes at %d", s, len(s), len(sums), i)
	}
}

func TestAnotherByteAnywhere(t *testing.T) {
	for _, s := range append(texts(), strings.Repeat("\x00", 300), strings.Repeat("\xff", 300)) {
		if len(s) > 1000 {
			continue
		}
		for i := range len(s) {
			checkEachByte(t, s, i)
		}
	}
}

func TestAnotherByteOfALongText(t *testing.T) {
	s := strings.Repeat("\x00\x01\xff", 1<<14)
	for _, i := range []int{0, 1, 2, 1 << 10, len(s) / 2, len(s) - 2, len(s) - 1} {
		checkEachByte(t, s, i)
	}
}

func TestAnotherByteOfAllTextsOfTwo(t *testing.T) {
	for b := range 256 {
		one := string([]byte{byte(b)})
		checkEachByte(t, one+"x", 1)
		checkEachByte(t, "x"+one, 0)
	}
}

// What is told of texts is so for keys: they are texts, too.
func TestAnotherByteOfAKey(t *testing.T) {
	for _, a := range numbers() {
		for shift := 0; shift < 32; shift += 8 {
			sumsOfA, sumsOfB, others := seen{}, seen{}, a&^(0xff<<shift)
			for b := range 256 {
				sumsOfA.add(Of(api.Key{Name: "n", A: others | b<<shift, B: 3}))
				sumsOfB.add(Of(api.Key{Name: "n", A: 3, B: others | b<<shift}))
			}
			if len(sumsOfA) != 256 || len(sumsOfB) != 256 {
				t.Errorf("%d has %d and %d sums for the byte at bit %d", a, len(sumsOfA), len(sumsOfB), shift)
			}
		}
	}
	names := seen{}
	for b := range 256 {
		names.add(Of(api.Key{Name: "n" + string([]byte{byte(b)}) + "m", A: 3, B: 4}))
	}
	if len(names) != 256 {
		t.Errorf("a key has %d sums for a byte of its name", len(names))
	}
}

// R1.

func TestTheSameCallTellsTheSame(t *testing.T) {
	sums := make([]uint32, 0, len(texts()))
	for _, s := range texts() {
		sums = append(sums, Sum(s))
	}
	for range 3 {
		keys(func(k api.Key) {
			of, stripe := Of(k), Stripe(k, 48)
			Sum(k.Name)
			Stripe(k, -5)
			if Of(k) != of || Stripe(k, 48) != stripe {
				t.Fatalf("%#v: another number", k)
			}
		})
		for i, s := range texts() {
			if got := Sum(s); got != sums[i] {
				t.Errorf("Sum of %.12q: got %d, and %d ahead", s, got, sums[i])
			}
		}
	}
}

func TestAlikeTextsInOtherMemory(t *testing.T) {
	for _, s := range texts() {
		bytes := []byte(s)
		other := string(bytes)
		clear(bytes)
		if Sum(other) != Sum(s) || Of(api.Key{Name: other, A: 1}) != Of(api.Key{Name: s, A: 1}) {
			t.Errorf("%.12q: another number", s)
		}
	}
}

func TestAGreatText(t *testing.T) {
	s := strings.Repeat("\xff\x00 wide\xc3", 1<<20)
	want := plainSum([]byte(s))
	if Sum(s) != want {
		t.Errorf("Sum of %d bytes: got %d, want %d", len(s), Sum(s), want)
	}
	k := api.Key{Name: s, A: math.MinInt, B: math.MaxInt}
	if Of(k) != plainOf(k) || Stripe(k, math.MinInt) != 0 || Stripe(k, math.MaxInt) != plainStripe(k, 64) {
		t.Errorf("a key of a name of %d bytes: %d, %d", len(s), Of(k), Stripe(k, math.MaxInt))
	}
}
