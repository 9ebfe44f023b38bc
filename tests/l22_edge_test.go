package tests

import (
	"math"
	"slices"
	"testing"

	"loop.example/entail/impl"
)

// knownMove is a memory, and the numbers of its things in the order in which they stand in the old part behind GcMinor, and behind GcMajor.
type knownMove struct {
	what  string
	r     rooted
	minor []int
	major []int
}

// mustMoveAs asks for an order that is told, not worked out.
func mustMoveAs(t *testing.T, known knownMove) {
	t.Helper()
	mustMemOk(t, known.what, known.r.cs, known.r.mem())
	var count movesCounted
	count.hold(t, known.r)
	m, roots := known.r.mem(), known.r.rootPlaces()
	for _, one := range []struct {
		name  string
		order []int
		move  func([]impl.Class, impl.Mem, []int) (impl.Mem, []int, bool)
	}{{"GcMinor", known.minor, impl.GcMinor}, {"GcMajor", known.major, impl.GcMajor}} {
		var order []int
		for _, n := range one.order {
			order = append(order, n-1)
		}
		want, _ := known.r.allOld(order)
		behind, then, ok := one.move(known.r.cs, m, roots)
		if wantMem := want.mem(); !ok || !equalMems(behind, wantMem) || !slices.Equal(then, want.rootPlaces()) {
			t.Errorf("%s: %s of %v, %v is %v, %v, %t, not %v, %v", known.what, one.name, m, roots, behind, then, ok, wantMem, want.rootPlaces())
		}
	}
}

// withCards has those cards set, too.
func (r rooted) withCards(cards ...int) rooted {
	r.memHand = r.copied()
	for _, c := range cards {
		r.cards[c] = true
	}
	return r
}

func movesByRoots() []knownMove {
	three := marks(3)
	return []knownMove{
		{"nothing at all", knownRooted(0, 14, nil, nil), nil, nil},
		{"nothing in use", knownRooted(9, 20, nil, nil), nil, nil},
		{"roots that are 0 of nothing in use", knownRooted(9, 20, nil, nil, 0, 0), nil, nil},
		{"no roots", knownRooted(9, 20, three[:2], three[2:]), []int{3}, nil},
		{"roots that are 0", knownRooted(9, 20, three[:2], three[2:], 0, 0), []int{3}, nil},
		{"one root", knownRooted(9, 20, three, nil, 2), []int{2}, []int{2}},
		{"two roots to one thing", knownRooted(9, 20, three, nil, 2, 2), []int{2}, []int{2}},
		{"two roots to one old thing", knownRooted(9, 20, three[:1], three[1:], 3, 3), []int{2, 3}, []int{3}},
		{"two roots to one thing, and others between", knownRooted(9, 20, three, nil, 3, 0, 1, 3, 1), []int{3, 1}, []int{1, 3}},
		{"roots the other way round", knownRooted(9, 20, three, nil, 3, 2, 1), []int{3, 2, 1}, []int{1, 2, 3}},
		{"roots to both parts", knownRooted(9, 20, three[:1], three[1:], 1, 3, 2), []int{2, 3, 1}, []int{2, 3, 1}},
		{"a young part of no words", knownRooted(0, 14, nil, three, 2), []int{1, 2, 3}, []int{2}},
		{"a young part that is empty", knownRooted(6, 14, nil, three, 3, 1), []int{1, 2, 3}, []int{1, 3}},
		{"a young part that is full", knownRooted(6, 14, three, nil, 3, 1, 2), []int{3, 1, 2}, []int{1, 2, 3}},
		{"a full young part that nothing leads to", knownRooted(6, 14, three, nil), nil, nil},
		{"a full young part of one word", knownRooted(1, 14, things(thing(0)), nil, 1), []int{1}, []int{1}},
		{"a single word at the end of a full young part", knownRooted(3, 14, things(mark(1), thing(0)), marks(1), 2, 1, 3), []int{3, 2, 1}, []int{3, 1, 2}},
		{"a thing that is a single word, between others", knownRooted(9, 20, things(mark(1), thing(0), mark(2)), nil, 2), []int{2}, []int{2}},
		{"arrays of none", knownRooted(9, 20, things(refsArray(), thing(impl.ClassInts)), things(refsArray()), 2, 1, 3), []int{3, 2, 1}, []int{3, 1, 2}},
	}
}

func movesByLeads() []knownMove {
	return []knownMove{
		{"a young thing that leads to itself", knownRooted(9, 20, things(refsArray(1, 1)), nil, 1), []int{1}, []int{1}},
		{"such a one that is not live", knownRooted(9, 20, things(refsArray(1)), nil), nil, nil},
		{"an old thing that leads to itself", knownRooted(9, 20, nil, things(mark(1), refsArray(2)), 2), []int{1, 2}, []int{2}},
		{"such a one that is not live", knownRooted(9, 20, nil, things(refsArray(1))), []int{1}, nil},
		{"a circle of young things", knownRooted(20, 20, things(refsArray(2), refsArray(3), refsArray(1)), nil, 2), []int{2, 3, 1}, []int{1, 2, 3}},
		{"a circle of young things that is not live", knownRooted(20, 20, things(refsArray(2), refsArray(1)), nil, 0), nil, nil},
		{"a circle through both parts", knownRooted(9, 20, things(refsArray(2)), things(refsArray(1)), 1), []int{2, 1}, []int{2, 1}},
		{"a circle through both parts, by its old thing", knownRooted(9, 20, things(refsArray(2)), things(refsArray(1)), 2), []int{2, 1}, []int{2, 1}},
		{"a circle through both parts that is not live", knownRooted(9, 20, things(refsArray(2)), things(refsArray(1))), []int{2, 1}, nil},
		{"a longer one", knownRooted(9, 20, things(refsArray(4), refsArray(3)), things(refsArray(1), refsArray(2)), 2), []int{3, 4, 2, 1}, []int{3, 4, 1, 2}},
		{"a young thing to which only an old one leads", knownRooted(9, 20, things(mark(1)), things(refsArray(1)), 2), []int{2, 1}, []int{2, 1}},
		{"a young thing to which only an old one leads that is not live", knownRooted(9, 20, things(mark(1)), things(refsArray(1))), []int{2, 1}, nil},
		{"what such a young thing leads to", knownRooted(9, 20, things(mark(1), refsArray(1)), things(mark(2), refsArray(2)), 3), []int{3, 4, 2, 1}, []int{3}},
		{"an old thing to which only a young one leads", knownRooted(9, 20, things(refsArray(2)), things(mark(1)), 1), []int{2, 1}, []int{2, 1}},
		{"an old thing to which only a young one leads that is not live", knownRooted(9, 20, things(refsArray(2)), things(mark(1))), []int{2}, nil},
		{"words that are places", knownRooted(9, 20, things(mark(1), thing(impl.ClassInts, word(1), word(3))), things(mark(1), thing(impl.ClassInts, word(1))), 2, 4), []int{3, 4, 2}, []int{4, 2}},
		{"a field that leads beside one that is a word", knownRooted(9, 20, things(thing(0), thing(4, word(1), ref(1), word(1))), nil, 2), []int{2, 1}, []int{1, 2}},
		{"what leads to nothing", knownRooted(9, 20, things(refsArray(0, 0)), things(thing(2, ref(0), ref(0))), 1, 0, 2), []int{2, 1}, []int{2, 1}},
		{"old things that are not live between live ones", knownRooted(9, 30, nil, append(marks(4), refsArray(2)), 5, 4), []int{1, 2, 3, 4, 5}, []int{2, 4, 5}},
		{"all live", knownRooted(9, 30, things(mark(7), refsArray(3)), things(mark(8), refsArray(1)), 4, 2), []int{3, 4, 2, 1}, []int{3, 4, 1, 2}},
		{"a live thing that moves by less than it is large", knownRooted(0, 20, nil, things(thing(0), refsArray(2, 3, 2, 2), mark(1)), 2), []int{1, 2, 3}, []int{2, 3}},
	}
}

// movesInOrder have a young thing for each way to be led to: by roots, by cards, and by what is in those.
func movesInOrder() []knownMove {
	young := things(mark(1), refsArray(4), mark(3), mark(4), mark(5), refsArray(1, 5, 3))
	return []knownMove{
		{"by roots, by cards, then by what is in them", knownRooted(20, 30, young, things(refsArray(6)), 2), []int{7, 2, 6, 4, 1, 5, 3}, []int{2, 4}},
		{"by roots ahead of cards", knownRooted(20, 30, young, things(refsArray(3, 1)), 5, 1), []int{7, 5, 1, 3}, []int{1, 5}},
		{"by cards in order", knownRooted(20, 40, young, things(refsArray(5, 0, 3), mark(9), refsArray(4, 3, 1)), 8), []int{7, 8, 9, 5, 3, 4, 1}, []int{8}},
		{"by what is in the things moved, as they were moved", knownRooted(30, 30, things(mark(1), mark(2), refsArray(2), refsArray(1), refsArray(3, 4)), nil, 4, 3), []int{4, 3, 1, 2}, []int{1, 2, 3, 4}},
		{"all at one depth ahead of what is deeper", knownRooted(30, 30, things(refsArray(2, 3), refsArray(4), refsArray(5), mark(1), mark(2)), nil, 1), []int{1, 2, 3, 4, 5}, []int{1, 2, 3, 4, 5}},
		{"each once, when one comes to it first", knownRooted(30, 30, things(mark(1), refsArray(1, 1, 2), refsArray(2, 1)), things(refsArray(2, 2)), 3, 3), []int{4, 3, 2, 1}, []int{1, 2, 3}},
		{"through an old thing one does not come to a young one by a root", knownRooted(30, 30, things(mark(1), mark(2)), things(refsArray(1)), 3, 2), []int{3, 2, 1}, []int{3, 1, 2}},
		{"fields in order, the own ones last", knownRooted(30, 30, things(refsArray(), thing(3, ref(3), ref(4), ref(1)), thing(impl.ClassInts), thing(2, ref(0), ref(0))), nil, 2), []int{2, 3, 4, 1}, []int{1, 2, 3, 4}},
	}
}

func movesByCards() []knownMove {
	return []knownMove{
		{"a card that is set with nothing there that leads to the young part", knownRooted(9, 20, marks(2), things(refsArray(4, 0), mark(3)), 2).withCards(0), []int{3, 4, 2}, []int{2}},
		{"all cards set for nothing", knownRooted(9, 20, marks(2), marks(1)).withCards(0, 1, 2, 3, 4), []int{3}, nil},
		{"a card that is set where a word is the place of a young thing", knownRooted(9, 20, marks(2), things(thing(impl.ClassInts, word(1), word(3)))).withCards(0, 1), []int{3}, nil},
		{"a thing on two cards, of which the second is set", knownRooted(9, 20, marks(2), things(refsArray(3, 0, 2, 0, 1, 3))), []int{3, 2, 1}, nil},
		{"a thing on two cards, of which the first is set", knownRooted(9, 20, marks(2), things(refsArray(2, 1, 3, 0, 3, 0)), 3), []int{3, 2, 1}, []int{3, 1, 2}},
		{"a thing on two cards, of which both are set for the second", knownRooted(9, 20, marks(2), things(refsArray(0, 3, 1, 0, 2, 0))).withCards(0), []int{3, 1, 2}, nil},
		{"a thing that is not live on two cards, of which the second is set", knownRooted(9, 20, things(mark(1), refsArray(1)), things(mark(9), refsArray(0, 0, 0, 0, 0, 2)), 3), []int{3, 4, 2, 1}, []int{3}},
		{"two things on one card, of which the second one leads", knownRooted(9, 20, marks(2), things(mark(3), thing(4, word(0), ref(2), word(0))), 3), []int{3, 4, 2}, []int{3}},
		{"the last card, which is smaller", knownRooted(9, 19, marks(1), things(refsArray(0, 0, 0, 0, 0, 0), mark(1), mark(2), mark(3), refsArray(1))), []int{2, 3, 4, 5, 6, 1}, nil},
		{"a card across the end of what is in use", knownRooted(9, 20, marks(2), things(refsArray(), refsArray(2)), 1), []int{3, 4, 1, 2}, []int{1}},
		{"a card across that end, on which what is moved leads to what was moved", knownRooted(12, 20, things(refsArray(3, 2), mark(1), mark(2)), things(refsArray(0, 1), thing(0)), 0).withCards(1), []int{4, 5, 1, 3, 2}, nil},
		{"a card behind the end of what is in use", knownRooted(9, 20, things(refsArray(2), mark(1)), things(thing(0)), 1).withCards(1, 4), []int{3, 1, 2}, []int{1, 2}},
	}
}

// P67 to P73, P77: each edge that is named, with its order told.
func TestKnownMoves(t *testing.T) {
	for _, known := range slices.Concat(movesByRoots(), movesByLeads(), movesInOrder(), movesByCards()) {
		mustMoveAs(t, known)
	}
}

// P67
func TestKnownLive(t *testing.T) {
	cs := knownClasses()
	r := knownRooted(9, 30, things(mark(1), refsArray(4), mark(2)), things(mark(3), refsArray(1, 6), thing(2, ref(5), ref(0))))
	m := r.mem()
	if walk := impl.MemWalk(cs, m); !slices.Equal(walk, []int{1, 3, 6, 10, 12, 16}) {
		t.Fatal(walk)
	}
	for _, known := range []struct {
		roots []int
		live  []int
	}{
		{nil, nil},
		{[]int{0}, nil},
		{[]int{0, 0, 0}, nil},
		{[]int{1}, []int{1}},
		{[]int{1, 1, 0, 1}, []int{1}},
		{[]int{6, 1}, []int{1, 6}},
		{[]int{3}, []int{3, 10}},
		{[]int{12}, []int{1, 12, 16}},
		{[]int{16}, []int{1, 12, 16}},
		{[]int{16, 6, 3}, []int{1, 3, 6, 10, 12, 16}},
		{[]int{2}, nil},
		{[]int{1, 2}, nil},
		{[]int{-1}, nil},
		{[]int{1, math.MaxInt}, nil},
	} {
		if live := impl.GcLive(cs, m, known.roots); !slices.Equal(live, known.live) {
			t.Errorf("from %v live are %v, not %v", known.roots, live, known.live)
		}
	}
}

// Words told one by one: a circle through both parts, of which an old thing, too, that is not live, leads to the young one.
func TestKnownWordsBehindMoves(t *testing.T) {
	cs := knownClasses()
	m := impl.Mem{
		Words: []int{1, 5, -2, 2, 1, 11, 0, 0, -1, 0, 4, 9, 3, 2, 0, 0, 0, 0, 0, 0, 0, 0, 0, 0},
		Young: 7, Top: 6, Old: 14,
		Cards: []bool{false, true, false, false, false},
	}
	mustMemOk(t, "known words", cs, m)
	if walk := impl.MemWalk(cs, m); !slices.Equal(walk, []int{1, 3, 8, 9, 11}) {
		t.Fatal(walk)
	}
	minor, roots, ok := impl.GcMinor(cs, m, []int{3, 0, 9})
	want := impl.Mem{
		Words: []int{0, 0, 0, 0, 0, 0, 0, 0, -1, 0, 4, 9, 15, 2, -2, 2, 19, 11, 1, 5, 0, 0, 0, 0},
		Young: 7, Top: 0, Old: 20,
		Cards: make([]bool, 5),
	}
	if !ok || !equalMems(minor, want) || !slices.Equal(roots, []int{15, 0, 9}) {
		t.Error(minor, roots, ok)
	}
	major, roots, ok := impl.GcMajor(cs, m, []int{3, 0, 9})
	want = impl.Mem{
		Words: []int{0, 0, 0, 0, 0, 0, 0, -1, 0, 4, 9, 16, 2, 1, 5, -2, 2, 14, 10, 0, 0, 0, 0, 0},
		Young: 7, Top: 0, Old: 19,
		Cards: make([]bool, 5),
	}
	if !ok || !equalMems(major, want) || !slices.Equal(roots, []int{16, 0, 8}) {
		t.Error(major, roots, ok)
	}
	minor, roots, ok = impl.GcMinor(cs, m, nil)
	if !ok || minor.Old != 20 || len(roots) != 0 || minor.Words[12] != 15 {
		t.Error(minor, roots, ok)
	}
	major, roots, ok = impl.GcMajor(cs, m, nil)
	if !ok || !equalMems(major, impl.MemNew(7, 17)) || len(roots) != 0 {
		t.Error(major, roots, ok)
	}
}

// withoutRoom is a memory of whose old part so many words are free, the rest of it being things that are live, or are not.
func withoutRoom(youngs []impl.Obj, free int, live bool, roots ...int) rooted {
	r := knownRooted(20, 24, youngs, nil, roots...)
	for r.free(true) > free {
		r, _ = r.withMade(thing(impl.ClassRoot), true)
		if live {
			r.roots = append(r.roots, len(r.objs))
		}
	}
	return r
}

// P72: room that is just enough for what is moved, and short by one word, for the first thing, for the last one, and for what cards and things lead to.
func TestJustRoomForMoves(t *testing.T) {
	for _, young := range []struct {
		what   string
		things []impl.Obj
		roots  []int
		words  int
	}{
		{"one word", things(thing(0)), []int{1}, 1},
		{"one thing of many words", things(refsArray(1, 0, 0, 0, 0, 1)), []int{1}, 8},
		{"of three things the last", marks(3), []int{3}, 2},
		{"three things", marks(3), []int{3, 1, 2}, 6},
		{"a root that is told twice", marks(3), []int{1, 1, 0, 1}, 2},
		{"what a thing leads to", things(mark(1), refsArray(1), mark(2)), []int{2}, 5},
		{"a circle", things(refsArray(2), refsArray(1)), []int{1}, 6},
		{"nothing of what there is", marks(8), nil, 0},
		{"all of a full part", things(marks(7)[0], refsArray(3, 4), refsArray(1, 2), thing(impl.ClassInts, word(1), word(2), word(3), word(4)), thing(impl.ClassFail, word(0)), mark(4)), []int{6, 5, 2, 3}, 20},
	} {
		for _, live := range []bool{false, true} {
			for free := range 24 - young.words + 1 {
				r := withoutRoom(young.things, free, live, young.roots...)
				m, roots := r.mem(), r.rootPlaces()
				if mustHoldMinor(t, r) != (free >= young.words) {
					t.Fatalf("%s: %d words are free of %v, and GcMinor of %v is another", young.what, free, m, roots)
				}
				if mustHoldMajor(t, r) != (!live || free >= young.words) {
					t.Fatalf("%s: %d words are free of %v, and GcMajor of %v is another", young.what, free, m, roots)
				}
			}
		}
	}
}

// P72: of the largest parts, full: all live has no room; of what is live there is just enough with the young part's words of the old one not live.
func TestJustRoomInFullParts(t *testing.T) {
	youngs, olds := marks(20), marks(60)
	var all []int
	for i := range 80 {
		all = append(all, 80-i)
	}
	r := knownRooted(impl.YoungMax, impl.OldMax, youngs, olds, all...)
	if mustHoldMinor(t, r) || mustHoldMajor(t, r) {
		t.Error("there is no room for 160 words in 120")
	}
	r.roots = all[20:]
	if mustHoldMinor(t, r) || !mustHoldMajor(t, r) {
		t.Error("120 words are live")
	}
	r.roots = all[19:]
	if mustHoldMinor(t, r) || mustHoldMajor(t, r) {
		t.Error("122 words are live")
	}
	r.roots = all[:60]
	if !mustHoldMinor(t, r) || !mustHoldMajor(t, r) {
		t.Error("the old part alone is live, and full: nothing is moved")
	}
}

// P72: what only an old thing leads to that is not live needs room by GcMinor, and none by GcMajor.
func TestRoomForWhatIsNotLive(t *testing.T) {
	olds := slices.Concat(things(refsArray(1)), marks(5))
	r := knownRooted(9, 14, marks(2), olds, 2)
	if r.free(true) != 1 {
		t.Fatal(r.free(true))
	}
	if mustHoldMinor(t, r) || !mustHoldMajor(t, r) {
		t.Error("two are to be moved by GcMinor, and there is one word")
	}
	r = knownRooted(9, 14, marks(2), olds[:5], 2)
	if mustHoldMinor(t, r) || !mustHoldMajor(t, r) {
		t.Error("two are to be moved by GcMinor, and there are three words")
	}
	r = knownRooted(9, 14, marks(2), olds[:5])
	if !mustHoldMinor(t, r) || !mustHoldMajor(t, r) {
		t.Error("one is to be moved by GcMinor, and there are three words")
	}
}
