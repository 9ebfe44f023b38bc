package tests

import (
	"math"
	"slices"
	"testing"

	"loop.example/entail/impl"
)

// mustHoldMake is GcMake of one thing by hand, and P74 to P76, and P78; it says where it is made.
func mustHoldMake(t *testing.T, r rooted, class int, n int) int {
	t.Helper()
	m, roots := r.mem(), r.rootPlaces()
	behind, then, at := impl.GcMake(r.cs, m, roots, class, n)
	o, is := r.newObj(class, n)
	if !is {
		if at != 0 || !isNoMem(behind) || len(then) != 0 {
			t.Fatalf("in %v %d of %d is made at %d: %v, %v", m, n, class, at, behind, then)
		}
		return 0
	}
	want, wantAt := r.make(o)
	if wantMem := want.mem(); at != wantAt || !equalMems(behind, wantMem) || !slices.Equal(then, want.rootPlaces()) {
		t.Fatalf("GcMake of %d of %d in %v, %v is %v, %v, %d, not %v, %v, %d", n, class, m, roots, behind, then, at, wantMem, want.rootPlaces(), wantAt)
	}
	mustSeeTheSame(t, "GcMake", r.cs, m, roots, behind, then)
	live := impl.GcLive(r.cs, m, roots)
	if at == 0 {
		if sizesIn(r.cs, m, live)+sizeOf(o) <= len(m.Words)-m.Young {
			t.Fatalf("%d of %d is not made in %v, %v, but there is room", n, class, m, roots)
		}
		return 0
	}
	mustBeMade(t, r, class, n)
	return at
}

// mustBeMade is P74, P76 and P78 of a thing that is made.
func mustBeMade(t *testing.T, r rooted, class int, n int) {
	t.Helper()
	m, roots := r.mem(), r.rootPlaces()
	o, _ := r.newObj(class, n)
	behind, then, at := impl.GcMake(r.cs, m, roots, class, n)
	i := slices.Index(impl.MemWalk(r.cs, behind), at)
	if i < 0 || !equalThings(impl.MemObjs(r.cs, behind)[i], o) || impl.MemSize(r.cs, behind, at) != sizeOf(o) {
		t.Fatalf("at %d of %v is not %v", at, behind, o)
	}
	if slices.Contains(then, at) || slices.Contains(impl.GcLive(r.cs, behind, then), at) {
		t.Fatalf("one comes to %d of %v, which was just made, from %v", at, behind, then)
	}
	if (at > m.Young) != (sizeOf(o) > m.Young) {
		t.Fatalf("%v is made at %d of %v", o, at, behind)
	}
	alone, place := impl.MemMake(r.cs, m, class, n, sizeOf(o) > m.Young)
	if place != 0 && (place != at || !equalMems(alone, behind) || !slices.Equal(roots, then)) {
		t.Fatalf("there is room in %v for %v, but it is made so: %v, %v", m, o, behind, then)
	}
	mustLeadAlike(t, roots, then)
}

// P74 to P76, P78: each class, and each array, and such that there are not.
func TestGcMakesInSomeMemories(t *testing.T) {
	made, not := 0, 0
	for _, r := range someRooted(31, 700) {
		for class := -3; class <= impl.ClassMax; class++ {
			for n := -1; n <= impl.ArrayMax+1; n++ {
				if mustHoldMake(t, r, class, n) != 0 {
					made++
				} else {
					not++
				}
				if class >= 0 {
					break
				}
			}
		}
	}
	if made < 4000 || not < 4000 {
		t.Error("too few of either", made, not)
	}
}

// P74 to P76, P78
func TestGcMakesInSmallMemories(t *testing.T) {
	made := 0
	for _, young := range []int{0, 3, 10, 12} {
		eachSmallRooted(12, 14, 1, func(r rooted) {
			used, _ := r.used()
			if r.young = young; used > young {
				return
			}
			for _, what := range []madeThing{{impl.ClassRoot, 0}, {2, 0}, {impl.ClassInts, 6}, {impl.ClassRefs, 2}} {
				if mustHoldMake(t, r, what.class, what.n) != 0 {
					made++
				}
			}
		})
	}
	if made < 10000 {
		t.Error("too few", made)
	}
}

// knownMake is a thing to make, and what becomes of the memory: the numbers of its things in the old part, if they are moved, and where it is; 0, if nowhere.
type knownMake struct {
	what  string
	r     rooted
	made  madeThing
	moved []int
	at    int
}

// unmoved is for memories in which all stays as it was.
func unmoved() []int {
	return []int{-1}
}

func mustMakeAs(t *testing.T, known knownMake) {
	t.Helper()
	mustMemOk(t, known.what, known.r.cs, known.r.mem())
	if at := mustHoldMake(t, known.r, known.made.class, known.made.n); at != known.at {
		t.Errorf("%s: it is made at %d, not %d", known.what, at, known.at)
	}
	want := known.r
	if !slices.Equal(known.moved, unmoved()) {
		var order []int
		for _, n := range known.moved {
			order = append(order, n-1)
		}
		want, _ = known.r.allOld(order)
	}
	if known.at != 0 {
		want, _ = want.withMade(want.made(known.made), known.at > want.young)
	}
	m, roots := known.r.mem(), known.r.rootPlaces()
	behind, then, _ := impl.GcMake(known.r.cs, m, roots, known.made.class, known.made.n)
	if wantMem := want.mem(); !equalMems(behind, wantMem) || !slices.Equal(then, want.rootPlaces()) {
		t.Errorf("%s: of %v, %v it is %v, %v, not %v, %v", known.what, m, roots, behind, then, wantMem, want.rootPlaces())
	}
}

func makesInTheYoungPart() []knownMake {
	circle := things(refsArray(2), refsArray(1))
	fullOld := things(refsArray(0, 0, 0, 0, 0, 1), mark(7), refsArray(2))
	return []knownMake{
		{"room at once", knownRooted(8, 20, circle, nil, 1), madeThing{1, 0}, unmoved(), 7},
		{"room at once, to the last word", knownRooted(9, 20, circle, nil, 1), madeThing{2, 0}, unmoved(), 7},
		{"room at once, and cards stay set", knownRooted(9, 20, circle, things(refsArray(1)), 3).withCards(2), madeThing{2, 0}, unmoved(), 7},
		{"nothing in use", knownRooted(8, 20, nil, nil), madeThing{impl.ClassRefs, 6}, unmoved(), 1},
		{"as many words as the whole part, which is empty", knownRooted(3, 20, nil, circle, 1), madeThing{2, 0}, unmoved(), 1},
		{"short by a word: behind GcMinor", knownRooted(8, 20, circle, nil, 1), madeThing{2, 0}, []int{1, 2}, 1},
		{"a full part: behind GcMinor", knownRooted(6, 20, circle, nil, 2), madeThing{0, 0}, []int{2, 1}, 1},
		{"as many words as the whole part, one of which is in use", knownRooted(3, 20, things(thing(0)), nil), madeThing{2, 0}, nil, 1},
		{"behind GcMinor, with no more room in the old part", knownRooted(3, 14, things(refsArray(1)), slices.Concat(marks(5), things(thing(0))), 1), madeThing{0, 0}, []int{2, 3, 4, 5, 6, 7, 1}, 1},
		{"GcMinor is enough, though GcMajor would leave less", knownRooted(3, 20, things(refsArray(1)), marks(3), 1), madeThing{0, 0}, []int{2, 3, 4, 1}, 1},
		{"GcMinor is false, and GcMajor is true", knownRooted(3, 14, things(refsArray(1)), marks(6), 1, 3), madeThing{0, 0}, []int{3, 1}, 1},
		{"GcMinor is false for what only an old thing leads to that is not live", knownRooted(4, 14, things(mark(1), mark(2)), slices.Concat(things(refsArray(2)), marks(5)), 1), madeThing{0, 0}, []int{1}, 1},
		{"GcMajor leaves nothing", knownRooted(2, 14, things(mark(1)), fullOld), madeThing{0, 0}, nil, 1},
		{"not at all: all that is live has no room", knownRooted(3, 14, things(refsArray(1)), marks(7), 1, 2, 3, 4, 5, 6, 7, 8), madeThing{0, 0}, unmoved(), 0},
		{"not at all: short by a word", knownRooted(3, 14, things(refsArray(1)), marks(6), 1, 2, 3, 4, 5, 6, 7), madeThing{0, 0}, unmoved(), 0},
		{"just not that word", knownRooted(2, 14, things(mark(9)), marks(6), 1, 2, 3, 4, 5, 6, 7), madeThing{1, 0}, []int{2, 3, 4, 5, 6, 7, 1}, 1},
		{"an array of 0", knownRooted(2, 14, things(thing(0)), nil, 1), madeThing{impl.ClassRefs, 0}, []int{1}, 1},
		{"an array of ArrayMax that is as large as the part", knownRooted(8, 14, things(refsArray(1)), nil, 1), madeThing{impl.ClassRefs, impl.ArrayMax}, []int{1}, 1},
		{"a class's thing, whatever n is", knownRooted(2, 14, things(thing(0)), nil, 1), madeThing{1, math.MaxInt}, []int{1}, 1},
	}
}

func makesInTheOldPart() []knownMake {
	circle := things(refsArray(2), refsArray(1))
	return []knownMake{
		{"one word more than the young part, room at once", knownRooted(2, 14, things(thing(0)), nil, 1), madeThing{2, 0}, unmoved(), 3},
		{"room at once, to the last word", knownRooted(7, 14, nil, marks(3), 1), madeThing{impl.ClassInts, 6}, unmoved(), 14},
		{"a young part of no words", knownRooted(0, 14, nil, marks(3), 1), madeThing{0, 0}, unmoved(), 7},
		{"a young part of no words, short by a word", knownRooted(0, 14, nil, marks(7), 3, 1), madeThing{0, 0}, []int{1, 3}, 5},
		{"an array of 0 that is larger than the young part", knownRooted(1, 14, things(thing(0)), nil, 1), madeThing{impl.ClassInts, 0}, unmoved(), 2},
		{"an array of ArrayMax, a word larger than the young part", knownRooted(7, 14, circle, nil, 1), madeThing{impl.ClassRefs, impl.ArrayMax}, unmoved(), 8},
		{"behind GcMajor: GcMinor makes no room", knownRooted(2, 14, things(thing(0)), marks(6), 1, 2), madeThing{2, 0}, []int{2, 1}, 6},
		{"behind GcMajor, of what GcMinor moved: the young thing that only an old one leads to is left nowhere", knownRooted(2, 14, things(mark(1)), slices.Concat(things(refsArray(1, 0)), marks(4)), 4, 3), madeThing{2, 0}, []int{3, 4}, 7},
		{"behind GcMajor alone: GcMinor is false", knownRooted(2, 14, things(mark(9)), slices.Concat(marks(6), things(thing(0))), 1, 8, 2), madeThing{2, 0}, []int{2, 8, 1}, 8},
		{"behind both, and old things stand ahead of what was young", knownRooted(4, 14, things(mark(9), mark(8)), marks(5), 2, 1, 5), madeThing{impl.ClassInts, 4}, []int{5, 2, 1}, 11},
		{"behind both, to the last word", knownRooted(3, 14, things(refsArray(2)), marks(4), 1, 2), madeThing{impl.ClassRefs, 6}, []int{2, 1}, 9},
		{"not at all: all is live, and GcMinor moved it", knownRooted(3, 14, things(refsArray(2)), marks(4), 1, 2, 3), madeThing{impl.ClassRefs, 6}, []int{2, 3, 1}, 0},
		{"not at all, with nothing to move", knownRooted(0, 14, nil, marks(7), 1, 2, 3, 4, 5, 6, 7), madeThing{0, 0}, unmoved(), 0},
		{"not at all: GcMinor is true, and GcMajor makes too little room", knownRooted(2, 14, things(mark(9)), marks(6), 1, 2, 3, 4, 5, 6), madeThing{impl.ClassInts, 2}, []int{2, 3, 4, 5, 6, 1}, 0},
		{"not at all: GcMajor is false, too", knownRooted(2, 14, things(mark(9)), marks(7), 1, 2, 3, 4, 5, 6, 7, 8), madeThing{2, 0}, unmoved(), 0},
		{"no roots: all the old part is free", knownRooted(2, 14, things(mark(9)), slices.Concat(marks(4), things(refsArray(1, 0))), 0), madeThing{impl.ClassInts, 6}, nil, 3},
	}
}

// P74 to P76, P78: each edge that is named, with what becomes of the memory told.
func TestKnownGcMakes(t *testing.T) {
	for _, known := range slices.Concat(makesInTheYoungPart(), makesInTheOldPart()) {
		mustMakeAs(t, known)
	}
}

// Where there is no room it counts all the same what was moved: GcMinor is true, and GcMajor of it, but the thing is too large.
func TestWhatWasMovedCountsWithoutRoom(t *testing.T) {
	r := knownRooted(3, 14, things(refsArray(2)), marks(4), 1, 2, 3)
	m, roots := r.mem(), r.rootPlaces()
	behind, then, at := impl.GcMake(r.cs, m, roots, impl.ClassInts, 6)
	if at != 0 || behind.Top != 0 || behind.Old != 3+7 || !slices.Equal(then, []int{8, 4, 6}) {
		t.Error(behind, then, at)
	}
	again, thenAgain, at := impl.GcMake(r.cs, behind, then, impl.ClassInts, 6)
	if at != 0 || !equalMems(again, behind) || !slices.Equal(thenAgain, then) {
		t.Error(again, thenAgain, at)
	}
}

// P78: just as many words as all of the young part, and one more, for each size of a thing.
func TestGcMakesOfTheYoungPartsSize(t *testing.T) {
	for _, cs := range memTrees() {
		for _, what := range allMade(cs) {
			h := emptyMem(cs, 0, 30)
			size := sizeOf(h.made(what))
			for _, young := range []int{0, size - 1, size, size + 1} {
				for used := range young + 1 {
					h := emptyMem(cs, young, 30)
					for range used {
						h = h.withObj(thing(impl.ClassRoot), false)
					}
					at := mustHoldMake(t, rooted{h, []int{used, 0, used / 2}}, what.class, what.n)
					if young < size && at != young+1 || young >= size && used+size <= young && at != used+1 || young >= size && used+size > young && at != 1 {
						t.Fatalf("%v of %d words is made at %d: %d words of %d were in use", what, size, at, used, young)
					}
				}
			}
		}
	}
}

// P74: makes, one behind the other, of what is led to at once, till there is no room; all that was made can still be seen.
func TestGcMakesTillThereIsNoRoom(t *testing.T) {
	cs := knownClasses()
	for _, parts := range [][2]int{{0, 14}, {3, 14}, {4, 14}, {7, 15}, {9, 20}, {40, 14}, {40, 120}, {39, 119}} {
		m := impl.MemNew(parts[0], parts[1])
		var roots []int
		count := 0
		for {
			behind, then, at := impl.GcMake(cs, m, roots, impl.ClassRefs, 1)
			mustSeeTheSame(t, "GcMake", cs, m, roots, behind, then)
			if at == 0 {
				break
			}
			// Each leads to the one made ahead of it, which is the only root.
			if count > 0 {
				behind, _ = impl.MemPut(cs, behind, at, 0, then[0])
			}
			m, roots = behind, []int{at}
			count++
		}
		if live := impl.GcLive(cs, m, roots); len(live) != count || 3*count+3 <= parts[1] {
			t.Errorf("in parts of %v there was room for %d: %v", parts, count, live)
		}
	}
}

// P68 to P78: makes, puts and moves in turns, each by hand, too; a root is told for some of what is made.
func TestMovesInTurns(t *testing.T) {
	d := &dice{state: 4711}
	var count movesCounted
	for range 120 {
		r := rooted{memHand: emptyMem(pick(d, memTrees()), d.roll(20), impl.OldMin+d.roll(30))}
		for range 60 {
			r = d.someMove(t, r, &count)
			if len(r.roots) > 5 {
				r.roots = r.roots[d.roll(3):]
			}
		}
	}
	if count.minor < 300 || count.major < 300 {
		t.Error("too few", count)
	}
}

// someMove asks for one turn, and takes it by hand.
func (d *dice) someMove(t *testing.T, r rooted, count *movesCounted) rooted {
	t.Helper()
	switch d.roll(8) {
	case 0:
		count.hold(t, r)
		r = orStay(r, r.minor)
	case 1:
		count.hold(t, r)
		r = orStay(r, r.major)
	case 2, 3, 4:
		what := pick(d, allMade(r.cs))
		at := mustHoldMake(t, r, what.class, what.n)
		r, _ = r.make(r.made(what))
		if i := slices.Index(r.places(), at); i >= 0 && d.roll(3) > 0 {
			r.roots = append(r.roots, i+1)
		}
	default:
		r.memHand = d.putOne(r.memHand)
	}
	return r
}

func orStay(r rooted, move func() (rooted, bool)) rooted {
	if next, ok := move(); ok {
		return next
	}
	return r
}

// putOne puts something into a thing, if there is one.
func (d *dice) putOne(h memHand) memHand {
	if len(h.objs) == 0 {
		return h
	}
	i := d.roll(len(h.objs))
	for k, was := range h.objs[i].Vals {
		v, _ := h.mayBe(was, d.mayPut(h, was))
		h = h.withVal(i, k, v)
	}
	return h
}
