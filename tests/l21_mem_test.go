package tests

import (
	"math"
	"slices"
	"testing"

	"loop.example/entail/impl"
)

func TestLimitsOfMemories(t *testing.T) {
	if impl.YoungMax != 40 || impl.OldMin != 14 || impl.OldMax != 120 || impl.CardSize != 4 || impl.ArrayMax != 6 {
		t.Error(impl.YoungMax, impl.OldMin, impl.OldMax, impl.CardSize, impl.ArrayMax)
	}
}

func mustMemOk(t *testing.T, what string, cs []impl.Class, m impl.Mem) {
	t.Helper()
	if !impl.MemOk(cs, m) {
		t.Fatalf("%s: %v of %v is not ok", what, m, cs)
	}
}

// mustNotMem asks for the one answer that all functions have where a memory is not ok.
func mustNotMem(t *testing.T, what string, cs []impl.Class, m impl.Mem) {
	t.Helper()
	if impl.MemOk(cs, m) {
		t.Fatalf("%s: %v of %v is ok", what, m, cs)
	}
	if walk, objs := impl.MemWalk(cs, m), impl.MemObjs(cs, m); len(walk) != 0 || len(objs) != 0 {
		t.Fatalf("%s: of %v it is %v and %v", what, m, walk, objs)
	}
	for _, at := range []int{math.MinInt, -1, 0, 1, 2, m.Young + 1, m.Old, math.MaxInt} {
		if size := impl.MemSize(cs, m, at); size != 0 {
			t.Fatalf("%s: MemSize of %v at %d is %d", what, m, at, size)
		}
		for _, n := range []int{math.MinInt, -1, 0, 1, math.MaxInt} {
			mustNotDoAt(t, what, cs, m, at, n)
		}
	}
}

func mustNotDoAt(t *testing.T, what string, cs []impl.Class, m impl.Mem, at int, n int) {
	t.Helper()
	if v, ok := impl.MemGet(cs, m, at, n); ok || v != 0 {
		t.Fatalf("%s: MemGet of %v, %d, %d is %d", what, m, at, n, v)
	}
	if behind, ok := impl.MemPut(cs, m, at, n, 0); ok || !isNoMem(behind) {
		t.Fatalf("%s: MemPut of %v, %d, %d is %v", what, m, at, n, behind)
	}
	for _, class := range []int{at, -2, -1, 0, 1} {
		for _, old := range []bool{false, true} {
			if behind, place := impl.MemMake(cs, m, class, n, old); place != 0 || !isNoMem(behind) {
				t.Fatalf("%s: MemMake in %v of %d, %d is %v, %d", what, m, class, n, behind, place)
			}
		}
	}
}

// P57
func TestNewMemories(t *testing.T) {
	count := 0
	for _, young := range append(allInts(), 38, 39, 40, 41, 42) {
		for _, old := range append(allInts(), 119, 120, 121, 122) {
			m := impl.MemNew(young, old)
			if young < 0 || young > 40 || old < 14 || old > 120 {
				if !isNoMem(m) {
					t.Fatalf("MemNew(%d, %d) is %v", young, old, m)
				}
				continue
			}
			count++
			mustBeNew(t, young, old, m)
		}
	}
	if count < 300 {
		t.Error("too few", count)
	}
}

func mustBeNew(t *testing.T, young int, old int, m impl.Mem) {
	t.Helper()
	if want := emptyMem(nil, young, old).mem(); !equalMems(m, want) {
		t.Fatalf("MemNew(%d, %d) is %v, not %v", young, old, m, want)
	}
	if len(m.Words)-m.Young != old || m.Young != young || m.Top != 0 || m.Old != young {
		t.Fatalf("MemNew(%d, %d) is not so large: %v", young, old, m)
	}
	for _, cs := range memTrees() {
		mustMemOk(t, "new", cs, m)
		if len(impl.MemWalk(cs, m)) != 0 || len(impl.MemObjs(cs, m)) != 0 {
			t.Fatalf("something is in MemNew(%d, %d)", young, old)
		}
	}
}

func TestKnownNewMemories(t *testing.T) {
	for _, known := range [][4]int{{0, 14, 14, 4}, {0, 120, 120, 30}, {40, 14, 54, 4}, {40, 120, 160, 30}, {1, 15, 16, 4}, {1, 16, 17, 4}, {1, 17, 18, 5}} {
		if m := impl.MemNew(known[0], known[1]); len(m.Words) != known[2] || len(m.Cards) != known[3] {
			t.Errorf("MemNew(%d, %d) has %d words and %d cards", known[0], known[1], len(m.Words), len(m.Cards))
		}
	}
	for _, no := range [][2]int{{-1, 14}, {41, 14}, {0, 13}, {0, 121}, {40, 121}, {41, 120}, {0, 0}, {math.MinInt, math.MinInt}, {math.MaxInt, math.MaxInt}, {40, math.MinInt}} {
		if m := impl.MemNew(no[0], no[1]); !isNoMem(m) {
			t.Errorf("MemNew(%d, %d) is %v", no[0], no[1], m)
		}
	}
}

// mustBeAsMemHand asks P58, P64 and P65, and whether all that is told of a memory is as by hand.
func mustBeAsMemHand(t *testing.T, h memHand) {
	t.Helper()
	m := h.mem()
	mustMemOk(t, "by hand", h.cs, m)
	if walk := impl.MemWalk(h.cs, m); !slices.Equal(walk, h.places()) {
		t.Fatalf("MemWalk of %v is %v, not %v", m, walk, h.places())
	}
	if objs := impl.MemObjs(h.cs, m); !slices.EqualFunc(objs, h.objs, equalThings) {
		t.Fatalf("MemObjs of %v is %v, not %v", m, objs, h.objs)
	}
	mustLieClose(t, h.cs, m)
	for _, at := range placesIn(m) {
		want := 0
		if i := slices.Index(h.places(), at); i >= 0 {
			want = sizeOf(h.objs[i])
		}
		if size := impl.MemSize(h.cs, m, at); size != want {
			t.Fatalf("MemSize of %v at %d is %d, not %d", m, at, size, want)
		}
	}
}

// mustLieClose asks P58 and P65 with nothing but what the program says of the memory.
func mustLieClose(t *testing.T, cs []impl.Class, m impl.Mem) {
	t.Helper()
	young, old := 1, m.Young+1
	for _, at := range impl.MemWalk(cs, m) {
		next := &old
		if at <= m.Young {
			next = &young
		}
		if at != *next {
			t.Fatalf("of %v a thing begins at %d, but the one ahead ends ahead of %d", m, at, *next)
		}
		*next += impl.MemSize(cs, m, at)
	}
	if young != m.Top+1 || old != m.Old+1 {
		t.Fatalf("of %v things end ahead of %d and %d", m, young, old)
	}
}

// P58, P64, P65
func TestSomeMemories(t *testing.T) {
	full, empty, none := 0, 0, 0
	for _, h := range someMems(1, 400) {
		mustBeAsMemHand(t, h)
		if h.free(false) == 0 && h.free(true) == 0 {
			full++
		}
		if len(h.objs) == 0 {
			empty++
		}
		if h.young == 0 {
			none++
		}
	}
	if full < 10 || empty < 10 || none < 10 {
		t.Error("too few", full, empty, none)
	}
}

// P58, P64, P65: all memories that few makes give.
func TestMemoriesOfFewMakes(t *testing.T) {
	count := 0
	eachMade(4, 14, 4, func(h memHand) {
		mustBeAsMemHand(t, h)
		count++
	})
	if count < 1000 {
		t.Error("too few", count)
	}
}

// P64
func TestKnownThingsOfMemories(t *testing.T) {
	cs := knownClasses()
	for _, known := range []struct {
		what string
		m    impl.Mem
		walk []int
		objs []impl.Obj
	}{
		{"the root's in the young part", impl.Mem{Words: make([]int, 16), Young: 2, Top: 1, Old: 2, Cards: make([]bool, 4)}, []int{1}, things(thing(0))},
		{"the root's in both", impl.Mem{Words: make([]int, 16), Young: 2, Top: 2, Old: 4, Cards: make([]bool, 4)}, []int{1, 2, 3, 4}, things(thing(0), thing(0), thing(0), thing(0))},
		{"what is thrown", impl.Mem{Words: []int{1, 5, 0, 0, 0, 0, 0, 0, 0, 0, 0, 0, 0, 0}, Old: 2, Cards: make([]bool, 4)}, []int{1}, things(thing(1, word(5)))},
		{"a word that is a place", impl.Mem{Words: []int{1, 1, 0, 0, 0, 0, 0, 0, 0, 0, 0, 0, 0, 0}, Old: 2, Cards: make([]bool, 4)}, []int{1}, things(thing(1, word(1)))},
		{"an empty array", impl.Mem{Words: []int{-1, 0, -2, 0, 0, 0, 0, 0, 0, 0, 0, 0, 0, 0}, Old: 4, Cards: make([]bool, 4)}, []int{1, 3}, things(thing(-1), thing(-2))},
		{"itself", impl.Mem{Words: []int{-2, 1, 1, 0, 0, 0, 0, 0, 0, 0, 0, 0, 0, 0}, Old: 3, Cards: make([]bool, 4)}, []int{1}, things(thing(-2, ref(1)))},
		{"a circle over both parts", impl.Mem{Words: []int{-2, 1, 4, -2, 2, 1, 0, 0, 0, 0, 0, 0, 0, 0, 0, 0, 0}, Young: 3, Top: 3, Old: 7, Cards: []bool{true, false, false, false}}, []int{1, 4}, things(thing(-2, ref(2)), thing(-2, ref(1), ref(0)))},
		{"a word and what leads", impl.Mem{Words: []int{0, 4, 2, 1, 7, 0, 0, 0, 0, 0, 0, 0, 0, 0}, Old: 5, Cards: make([]bool, 4)}, []int{1, 2}, things(thing(0), thing(4, word(2), ref(1), word(7)))},
	} {
		mustMemOk(t, known.what, cs, known.m)
		if walk, objs := impl.MemWalk(cs, known.m), impl.MemObjs(cs, known.m); !slices.Equal(walk, known.walk) || !slices.EqualFunc(objs, known.objs, equalThings) {
			t.Errorf("%s: %v and %v", known.what, walk, objs)
		}
	}
}

func TestKnownMemoriesThatAreNotOk(t *testing.T) {
	cs := knownClasses()
	for i, m := range spoiltMems() {
		if memOkByHand(cs, m) {
			t.Fatalf("%d: %v is ok", i, m)
		}
		mustNotMem(t, "spoilt", cs, m)
	}
}

func TestMemoriesOfClassesThatAreNotOk(t *testing.T) {
	root := emptyMem(knownClasses(), 4, 14).withObj(thing(0), false).withObj(thing(0), true)
	for _, cs := range spoiltClasses() {
		mustNotMem(t, "classes are not ok", cs, impl.MemNew(4, 14))
		mustNotMem(t, "classes are not ok", cs, root.mem())
	}
	for _, cs := range memTrees() {
		mustMemOk(t, "the root's is there in all", cs, root.mem())
	}
}

// numbersOfMem are where all numbers of a memory stand, but cards.
func numbersOfMem(m *impl.Mem) []*int {
	all := []*int{&m.Young, &m.Top, &m.Old}
	for i := range m.Words {
		all = append(all, &m.Words[i])
	}
	return all
}

func mustBeOkAsByHand(t *testing.T, cs []impl.Class, m impl.Mem) bool {
	t.Helper()
	ok := memOkByHand(cs, m)
	if impl.MemOk(cs, m) != ok {
		t.Fatalf("%v of %v is ok: %t", m, cs, ok)
	}
	if ok {
		mustLieClose(t, cs, m)
	}
	return ok
}

// Memories that are ok, with one number changed, near and far.
func TestMemoriesWithOneNumberChanged(t *testing.T) {
	ok, not := 0, 0
	for _, h := range someMems(2, 120) {
		m := h.mem()
		for _, n := range numbersOfMem(&m) {
			was := *n
			for _, *n = range append(farInts(), -129, -128, -3, -2, -1, 0, 1, 2, 3, 4, 5, 6, 7, 8, 13, 14, was-1, was+1, m.Old, m.Old+1, len(m.Words), len(m.Words)+1, 127, 128) {
				if mustBeOkAsByHand(t, h.cs, m) {
					ok++
				} else {
					not++
				}
			}
			*n = was
		}
	}
	if ok < 5000 || not < 5000 {
		t.Error("too few of either", ok, not)
	}
}

// The same words, cut into parts, and used, in all ways: what is in one part does not end in the other.
func TestMemoriesCutElsewhere(t *testing.T) {
	ok := 0
	for _, h := range someMems(3, 60) {
		m := h.mem()
		if h.young > 12 || h.old > 25 {
			continue
		}
		m.Cards = nil
		for m.Young = range 14 {
			m.Cards = slices.Repeat([]bool{true}, memCards(max(0, len(m.Words)-m.Young)))
			for m.Top = -1; m.Top <= m.Young+1; m.Top++ {
				for m.Old = m.Young - 1; m.Old <= len(m.Words)+1; m.Old++ {
					if mustBeOkAsByHand(t, h.cs, m) {
						ok++
					}
				}
			}
		}
	}
	if ok < 80 {
		t.Error("too few", ok)
	}
}

// One card fewer, one more, none at all, and each one not set, or set.
func TestMemoriesWithOtherCards(t *testing.T) {
	ok, not := 0, 0
	for _, h := range someMems(4, 300) {
		m := h.mem()
		for c := range m.Cards {
			m.Cards[c] = !m.Cards[c]
			if mustBeOkAsByHand(t, h.cs, m) {
				ok++
			} else {
				not++
			}
			m.Cards[c] = !m.Cards[c]
		}
		was := m.Cards
		for _, m.Cards = range otherSizes(was) {
			mustBeOkAsByHand(t, h.cs, m)
		}
	}
	if ok < 500 || not < 100 {
		t.Error("too few of either", ok, not)
	}
}

// What is not in use must be 0: each such word of both parts, also the last one.
func TestWordsThatAreNotInUse(t *testing.T) {
	count := 0
	for _, h := range someMems(5, 150) {
		m := h.mem()
		for i := range m.Words {
			if i < m.Top || i >= m.Young && i < m.Old {
				continue
			}
			for _, n := range []int{math.MinInt, -2, -1, 1, 2, 256, 1 << 32, math.MaxInt} {
				m.Words[i] = n
				if impl.MemOk(h.cs, m) {
					t.Fatalf("%v is ok, with %d at %d, which is not in use", m, n, i)
				}
			}
			m.Words[i] = 0
			count++
		}
	}
	if count < 500 {
		t.Error("too few", count)
	}
}

// leading is a memory with a young thing of the root's, and an array in the old part, behind so many of the root's, in which the k-th leads there; all cards are not set.
func leading(old int, ahead int, n int, k int) memHand {
	h := emptyMem(knownClasses(), 3, old).withObj(thing(0), false).withObj(thing(0), false)
	for range ahead {
		h = h.withObj(thing(0), true)
	}
	h = h.withObj(h.made(madeThing{impl.ClassRefs, n}), true)
	h.objs[len(h.objs)-1].Vals[k] = ref(2)
	return h
}

// eachLeading visits one word that leads from the old part to the young one, on each of all words where one can be: on the first and on the last of a card, and on the last card, be that smaller or not.
func eachLeading(visit func(h memHand, card int)) {
	for _, old := range []int{14, 15, 16, 17, 18, 119, 120} {
		for word := 2; word < old; word++ {
			visit(leading(old, word-2, 1, 0), word/4)
			if old-word >= 6 {
				visit(leading(old, word-2, 6, 0), word/4)
			}
			if word >= 7 {
				visit(leading(old, word-7, 6, 5), word/4)
			}
		}
	}
}

// P62
func TestCardsOfWhatLeadsToTheYoungPart(t *testing.T) {
	last := 0
	eachLeading(func(h memHand, card int) {
		m := h.mem()
		if impl.MemOk(h.cs, m) {
			t.Fatalf("%v is ok, but no card is set", m)
		}
		m.Cards[card] = true
		mustMemOk(t, "its card is set", h.cs, m)
		for c := range m.Cards {
			m.Cards[c] = c != card
		}
		if impl.MemOk(h.cs, m) {
			t.Fatalf("%v is ok, but just card %d is not set", m, card)
		}
		if card == len(m.Cards)-1 {
			last++
		}
	})
	if last < 20 {
		t.Error("too few", last)
	}
}

// Cards may be set where nothing leads to the young part, also where nothing is.
func TestCardsThatAreSetForNothing(t *testing.T) {
	for _, h := range someMems(6, 200) {
		for c := range h.cards {
			h = h.copied()
			h.cards[c] = true
			mustMemOk(t, "a card more", h.cs, h.mem())
		}
		mustBeAsMemHand(t, h)
	}
}

// A word in the old part that is the place of a young thing, but does not lead, needs no card; nor does what leads from the young part, or stays in the old one.
func TestWhatNeedsNoCard(t *testing.T) {
	h := emptyMem(knownClasses(), 6, 16)
	h = h.withObj(thing(impl.ClassRefs, ref(1), ref(2)), false).withObj(thing(impl.ClassInts, word(1)), true).withObj(thing(impl.ClassRefs, ref(0), ref(2), ref(3)), true)
	h.objs[0].Vals[1] = ref(2)
	mustBeAsMemHand(t, h)
}
