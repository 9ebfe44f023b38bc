package tests

import (
	"math"
	"testing"

	"loop.example/entail/impl"
)

const wordCount = impl.IntHigh - impl.IntLow + 1

// wrapByHand steps by whole counts of words, so that it shares nothing with IntWrap; only for small numbers.
func wrapByHand(n int) int {
	for n < impl.IntLow {
		n += wordCount
	}
	for n > impl.IntHigh {
		n -= wordCount
	}
	return n
}

// someWords are all edges of words, and some between, few enough to take three at a time.
func someWords() []int {
	ws := []int{-128, -127, -126, -65, -64, -63, -17, -16, -3, -2, -1, 0, 1, 2, 3, 15, 16, 63, 64, 65, 125, 126, 127}
	for w := impl.IntLow; w <= impl.IntHigh; w += 11 {
		ws = append(ws, w)
	}
	return ws
}

func someOps() []int {
	return []int{impl.OpAdd, impl.OpSub, impl.OpMul, impl.OpDiv}
}

// mustDo is IntDo where it must be true.
func mustDo(t *testing.T, op int, a int, b int) int {
	t.Helper()
	n, ok := impl.IntDo(op, a, b)
	if !ok {
		t.Fatalf("IntDo(%d, %d, %d) is false", op, a, b)
	}
	return n
}

func mustNotDo(t *testing.T, op int, a int, b int) {
	t.Helper()
	if n, ok := impl.IntDo(op, a, b); n != 0 || ok {
		t.Errorf("IntDo(%d, %d, %d) is %d, %v, not 0, false", op, a, b, n, ok)
	}
}

func TestLimitsOfWords(t *testing.T) {
	if impl.IntLow != -128 || impl.IntHigh != 127 {
		t.Error("words are not -128..127")
	}
	if impl.OpAdd != 1 || impl.OpSub != 2 || impl.OpMul != 3 || impl.OpDiv != 4 {
		t.Error("ops are not 1 to 4, in order")
	}
}

// P1.
func TestWrapOfKnownNumbers(t *testing.T) {
	for _, c := range [][2]int{
		{0, 0}, {-1, -1}, {-128, -128}, {127, 127}, {128, -128}, {-129, 127}, {129, -127}, {-130, 126},
		{255, -1}, {256, 0}, {257, 1}, {-255, 1}, {-256, 0}, {-257, -1}, {300, 44}, {-300, -44},
		{383, 127}, {384, -128}, {-384, -128}, {-385, 127}, {512, 0}, {256 * 1000, 0}, {-256 * 1000, 0},
		{math.MaxInt32, -1}, {math.MinInt32, 0}, {math.MaxInt, -1}, {math.MinInt, 0},
		{math.MaxInt - 127, -128}, {math.MaxInt - 128, 127}, {math.MinInt + 127, 127}, {math.MinInt + 128, -128},
	} {
		if n := impl.IntWrap(c[0]); n != c[1] {
			t.Errorf("IntWrap(%d) is %d, not %d", c[0], n, c[1])
		}
	}
}

// P1.
func TestWrapIsAWordOfTheSameRemainder(t *testing.T) {
	check := func(n int) {
		w := impl.IntWrap(n)
		if w < impl.IntLow || w > impl.IntHigh {
			t.Errorf("IntWrap(%d) is %d, no word", n, w)
		}
		if (n%wordCount-w)%wordCount != 0 {
			t.Errorf("IntWrap(%d) is %d, which differs by no multiple of %d", n, w, wordCount)
		}
		if impl.IntWrap(w) != w {
			t.Errorf("IntWrap of the word %d is %d", w, impl.IntWrap(w))
		}
	}
	for n := -70000; n <= 70000; n++ {
		check(n)
	}
	for k := range 600 {
		check(math.MinInt + k)
		check(math.MaxInt - k)
	}
	for shift := range 63 {
		for k := -2; k <= 2; k++ {
			check(1<<shift + k)
			check(-1<<shift + k)
		}
	}
}

// P1.
func TestWrapOfAWordIsTheWord(t *testing.T) {
	for w := impl.IntLow; w <= impl.IntHigh; w++ {
		if n := impl.IntWrap(w); n != w {
			t.Errorf("IntWrap(%d) is %d", w, n)
		}
	}
}

// P2.
func TestSumsAndProductsOfAllWords(t *testing.T) {
	for a := impl.IntLow; a <= impl.IntHigh; a++ {
		for b := impl.IntLow; b <= impl.IntHigh; b++ {
			if n := mustDo(t, impl.OpAdd, a, b); n != wrapByHand(a+b) {
				t.Fatalf("%d + %d is %d", a, b, n)
			}
			if n := mustDo(t, impl.OpSub, a, b); n != wrapByHand(a-b) {
				t.Fatalf("%d - %d is %d", a, b, n)
			}
			if n := mustDo(t, impl.OpMul, a, b); n != wrapByHand(a*b) {
				t.Fatalf("%d * %d is %d", a, b, n)
			}
		}
	}
}

// P2.
func TestOrderDoesNotMatter(t *testing.T) {
	for _, op := range []int{impl.OpAdd, impl.OpMul} {
		for a := impl.IntLow; a <= impl.IntHigh; a++ {
			for b := impl.IntLow; b < a; b++ {
				if mustDo(t, op, a, b) != mustDo(t, op, b, a) {
					t.Fatalf("op %d of %d and %d differs by their order", op, a, b)
				}
			}
		}
	}
}

// P2.
func TestBracketsDoNotMatter(t *testing.T) {
	ws := someWords()
	for _, a := range ws {
		for _, b := range ws {
			for _, c := range ws {
				for _, op := range []int{impl.OpAdd, impl.OpMul} {
					left := mustDo(t, op, mustDo(t, op, a, b), c)
					right := mustDo(t, op, a, mustDo(t, op, b, c))
					if left != right {
						t.Fatalf("op %d of %d, %d, %d: %d, or %d, by brackets", op, a, b, c, left, right)
					}
				}
				if n := mustDo(t, impl.OpAdd, mustDo(t, impl.OpAdd, a, b), c); n != wrapByHand(a+b+c) {
					t.Fatalf("%d + %d + %d is %d", a, b, c, n)
				}
				once := mustDo(t, impl.OpMul, a, mustDo(t, impl.OpAdd, b, c))
				each := mustDo(t, impl.OpAdd, mustDo(t, impl.OpMul, a, b), mustDo(t, impl.OpMul, a, c))
				if once != each {
					t.Fatalf("%d * (%d + %d) is %d, or %d", a, b, c, once, each)
				}
			}
		}
	}
}

// P3.
func TestKnownQuotients(t *testing.T) {
	for _, c := range [][3]int{
		{7, 2, 3}, {-7, 2, -3}, {7, -2, -3}, {-7, -2, 3}, {0, 5, 0}, {0, -128, 0}, {1, 2, 0}, {-1, 2, 0}, {1, -2, 0},
		{127, 127, 1}, {127, -128, 0}, {-128, 127, -1}, {-128, -128, 1}, {-128, 1, -128}, {127, -1, -127}, {-127, -1, 127},
		{-128, -1, -128}, {-128, 2, -64}, {-128, -2, 64}, {127, 2, 63}, {-127, 2, -63},
	} {
		if n := mustDo(t, impl.OpDiv, c[0], c[1]); n != c[2] {
			t.Errorf("%d / %d is %d, not %d", c[0], c[1], n, c[2])
		}
	}
}

func magnitude(n int) int {
	if n < 0 {
		return -n
	}
	return n
}

// quotientByHand counts how often b goes into a, so that it shares nothing with Go's own division.
func quotientByHand(a int, b int) int {
	n := 0
	for rest := magnitude(a); rest >= magnitude(b); rest -= magnitude(b) {
		n++
	}
	if a < 0 != (b < 0) {
		return -n
	}
	return n
}

// P3.
func TestDivisionLeavesLessThanTheSecondWord(t *testing.T) {
	for a := impl.IntLow; a <= impl.IntHigh; a++ {
		for b := impl.IntLow; b <= impl.IntHigh; b++ {
			if b == 0 {
				continue
			}
			q := mustDo(t, impl.OpDiv, a, b)
			if q != wrapByHand(quotientByHand(a, b)) {
				t.Fatalf("%d / %d is %d", a, b, q)
			}
			left := mustDo(t, impl.OpSub, a, mustDo(t, impl.OpMul, q, b))
			if magnitude(left) >= magnitude(b) {
				t.Fatalf("%d / %d leaves %d, which is no nearer to 0", a, b, left)
			}
			if left < 0 && a > 0 || left > 0 && a < 0 || left != 0 && a == 0 {
				t.Fatalf("%d / %d leaves %d, on the other side", a, b, left)
			}
		}
	}
}

// P3.
func TestDivisionByZero(t *testing.T) {
	for a := impl.IntLow; a <= impl.IntHigh; a++ {
		mustNotDo(t, impl.OpDiv, a, 0)
	}
	for _, a := range []int{math.MinInt, -129, 128, math.MaxInt} {
		mustNotDo(t, impl.OpDiv, a, 0)
	}
}

// P2, P3: what is no word is refused, whichever of both it is.
func TestNoWords(t *testing.T) {
	for _, op := range someOps() {
		for _, n := range []int{-129, 128, 255, 256, -256, 257, 1 << 40, math.MinInt, math.MinInt + 1, math.MaxInt} {
			for _, w := range []int{-128, -1, 0, 1, 127} {
				mustNotDo(t, op, n, w)
				mustNotDo(t, op, w, n)
			}
			mustNotDo(t, op, n, n)
		}
		mustDo(t, op, impl.IntLow, impl.IntLow)
		mustDo(t, op, impl.IntLow, impl.IntHigh)
		mustDo(t, op, impl.IntHigh, impl.IntLow)
		mustDo(t, op, impl.IntHigh, impl.IntHigh)
	}
}

// P2, P3: there are no other ops.
func TestNoSuchOps(t *testing.T) {
	for _, op := range []int{math.MinInt, math.MinInt + 1, -256, -4, -1, 0, 5, 6, 255, 256, 257, 1<<32 + 1, math.MaxInt} {
		for _, a := range someWords() {
			for _, b := range someWords() {
				mustNotDo(t, op, a, b)
			}
		}
		mustNotDo(t, op, math.MinInt, math.MaxInt)
	}
}
