package tests

import (
	"slices"

	"loop.example/entail/impl"
)

// memHand is a memory told by its things, not by words: first those of the young part, then those of the old one, which lead to each other by their order; how many words each part has, and which cards are set.
type memHand struct {
	cs      []impl.Class
	young   int
	old     int
	objs    []impl.Obj
	inYoung int
	cards   []bool
}

// memCards is how many cards so many words have, counted one by one.
func memCards(words int) int {
	count := 0
	for first := 0; first < words; first += 4 {
		count++
	}
	return count
}

func emptyMem(cs []impl.Class, young int, old int) memHand {
	return memHand{cs: cs, young: young, old: old, cards: make([]bool, memCards(old))}
}

func (h memHand) copied() memHand {
	h.objs, h.cards = copyHeap(heap{objs: h.objs}).objs, slices.Clone(h.cards)
	return h
}

// headOf is the words with which a thing begins.
func headOf(o impl.Obj) []int {
	if o.Class < 0 {
		return []int{o.Class, len(o.Vals)}
	}
	return []int{o.Class}
}

func sizeOf(o impl.Obj) int {
	return len(headOf(o)) + len(o.Vals)
}

func sizesOf(objs []impl.Obj) int {
	sum := 0
	for _, o := range objs {
		sum += sizeOf(o)
	}
	return sum
}

// used is how many words of each part are.
func (h memHand) used() (int, int) {
	return sizesOf(h.objs[:h.inYoung]), sizesOf(h.objs[h.inYoung:])
}

// free is how many words of a part are not in use.
func (h memHand) free(old bool) int {
	young, others := h.used()
	if old {
		return h.old - others
	}
	return h.young - young
}

// placeOf is where the i-th of the things begins, or would, if it were behind the last of the old part.
func (h memHand) placeOf(i int) int {
	if i < h.inYoung {
		return 1 + sizesOf(h.objs[:i])
	}
	return h.young + 1 + sizesOf(h.objs[h.inYoung:i])
}

func (h memHand) places() []int {
	var all []int
	for i := range h.objs {
		all = append(all, h.placeOf(i))
	}
	return all
}

// valueIn is a value as the word that it is in the memory.
func (h memHand) valueIn(v impl.Val) int {
	if !v.Ref || v.N == 0 {
		return v.N
	}
	return h.placeOf(v.N - 1)
}

func (h memHand) mem() impl.Mem {
	young, old := h.used()
	m := impl.Mem{Words: make([]int, h.young+h.old), Young: h.young, Top: young, Old: h.young + old, Cards: slices.Clone(h.cards)}
	for i, o := range h.objs {
		words := headOf(o)
		for _, v := range o.Vals {
			words = append(words, h.valueIn(v))
		}
		copy(m.Words[h.placeOf(i)-1:], words)
	}
	return m
}

// cardOf is the card of what is k-th in the i-th of the things, which is in the old part.
func (h memHand) cardOf(i int, k int) int {
	return (sizesOf(h.objs[h.inYoung:i]) + len(headOf(h.objs[i])) + k) / 4
}

// leadsYoung says whether what is k-th in the i-th of the things leads from the old part to the young one.
func (h memHand) leadsYoung(i int, k int) bool {
	v := h.objs[i].Vals[k]
	return i >= h.inYoung && v.Ref && v.N > 0 && v.N <= h.inYoung
}

// needed is which cards must be set.
func (h memHand) needed() []bool {
	cards := make([]bool, len(h.cards))
	for i, o := range h.objs {
		for k := range o.Vals {
			if h.leadsYoung(i, k) {
				cards[h.cardOf(i, k)] = true
			}
		}
	}
	return cards
}

// withNeeded has all cards set that must be, and those that are.
func (h memHand) withNeeded() memHand {
	h = h.copied()
	for c, set := range h.needed() {
		h.cards[c] = h.cards[c] || set
	}
	return h
}

// newObj is a thing of that class, or an array of n, with nothing in it; false, if there is no such.
func (h memHand) newObj(class int, n int) (impl.Obj, bool) {
	switch {
	case class == -1 && n >= 0 && n <= 6:
		return emptyThing(class, slices.Repeat([]int{1}, n)...), true
	case class == -2 && n >= 0 && n <= 6:
		return emptyThing(class, slices.Repeat([]int{2}, n)...), true
	case class >= 0 && class < len(h.cs):
		return emptyThing(class, fieldsOf(h.cs, class)...), true
	}
	return impl.Obj{}, false
}

// withObj has a thing more, behind all others of its part; there must be room.
func (h memHand) withObj(o impl.Obj, old bool) memHand {
	h = h.copied()
	if old {
		h.objs = append(h.objs, o)
		return h
	}
	h.objs = withThing(heap{objs: h.objs}, h.inYoung, o).objs
	h.inYoung++
	return h
}

// mayBe is the value that a word is in the place of another value; false, if it can't be there.
func (h memHand) mayBe(was impl.Val, n int) (impl.Val, bool) {
	if !was.Ref {
		return word(n), n >= -128 && n <= 127
	}
	i := slices.Index(h.places(), n)
	return ref(i + 1), n == 0 || i >= 0
}

// withVal has that value there, and its card set, if it must be.
func (h memHand) withVal(i int, k int, v impl.Val) memHand {
	h = h.copied()
	h.objs[i].Vals[k] = v
	if h.leadsYoung(i, k) {
		h.cards[h.cardOf(i, k)] = true
	}
	return h
}

// sorts is, of each word, what it is: b begins a thing, n is how many there are in an array, w is a word, r leads, and f is free; false, if parts, or things, are not so.
func sorts(cs []impl.Class, m impl.Mem) (string, bool) {
	old := len(m.Words) - m.Young
	if m.Young < 0 || m.Young > 40 || old < 14 || old > 120 || m.Top < 0 || m.Top > m.Young || m.Old < m.Young || m.Old > len(m.Words) {
		return "", false
	}
	young, ok := sortsOfPart(cs, m.Words[:m.Young], m.Top)
	others, also := sortsOfPart(cs, m.Words[m.Young:], m.Old-m.Young)
	return young + others, ok && also
}

func sortsOfPart(cs []impl.Class, words []int, used int) (string, bool) {
	all := ""
	for len(all) < used {
		class := words[len(all)]
		all += "b"
		switch {
		case class == -1 || class == -2:
			if len(all) == used || words[len(all)] < 0 || words[len(all)] > 6 {
				return "", false
			}
			each := map[int]string{-1: "wwwwww", -2: "rrrrrr"}[class]
			all += "n" + each[:words[len(all)]]
		case class >= 0 && class < len(cs):
			for _, t := range fieldsOf(cs, class) {
				all += map[bool]string{true: "w", false: "r"}[t == 1]
			}
		default:
			return "", false
		}
	}
	if len(all) > used {
		return "", false
	}
	for len(all) < len(words) {
		all += "f"
	}
	return all, true
}

// memOkByHand looks at each word for itself.
func memOkByHand(cs []impl.Class, m impl.Mem) bool {
	if !impl.ClassesOk(cs) {
		return false
	}
	all, ok := sorts(cs, m)
	if !ok || len(m.Cards) != memCards(len(m.Words)-m.Young) {
		return false
	}
	for i, n := range m.Words {
		switch all[i] {
		case 'f':
			ok = n == 0
		case 'w':
			ok = n >= -128 && n <= 127
		case 'r':
			ok = n == 0 || n > 0 && n <= len(all) && all[n-1] == 'b'
			if n > 0 && n <= m.Young && i >= m.Young {
				ok = ok && m.Cards[(i-m.Young)/4]
			}
		}
		if !ok {
			return false
		}
	}
	return true
}

func copyMem(m impl.Mem) impl.Mem {
	m.Words, m.Cards = slices.Clone(m.Words), slices.Clone(m.Cards)
	return m
}

func equalMems(a impl.Mem, b impl.Mem) bool {
	return slices.Equal(a.Words, b.Words) && slices.Equal(a.Cards, b.Cards) && a.Young == b.Young && a.Top == b.Top && a.Old == b.Old
}

func isNoMem(m impl.Mem) bool {
	return equalMems(m, impl.Mem{})
}
