package impl

// Limits of words, and what is done with two of them.
const (
	IntLow  = -128
	IntHigh = 127
	OpAdd   = 1
	OpSub   = 2
	OpMul   = 3
	OpDiv   = 4
)

// word is an int of its own, not an int8: what two words give is wrapped in one place only, by IntWrap.
type word int

func (a word) add(b word) (word, bool) {
	return a + b, true
}

func (a word) sub(b word) (word, bool) {
	return a - b, true
}

func (a word) mul(b word) (word, bool) {
	return a * b, true
}

func (a word) div(b word) (word, bool) {
	if b == 0 {
		return 0, false
	}
	return a / b, true
}

func isWord(n int) bool {
	return IntLow <= n && n <= IntHigh
}

// IntWrap is the word that a number is.
func IntWrap(n int) int {
	// An int8 holds just the words; a remainder would need a second step below 0.
	return int(int8(n))
}

// IntDo does an operation with two words; false, if it cannot be done.
func IntDo(op int, a int, b int) (int, bool) {
	if op < OpAdd || op > OpDiv || !isWord(a) || !isWord(b) {
		return 0, false
	}
	ops := [...]func(word, word) (word, bool){word.add, word.sub, word.mul, word.div}
	n, ok := ops[op-OpAdd](word(a), word(b))
	return IntWrap(int(n)), ok
}
