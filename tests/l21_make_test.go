package tests

import (
	"math"
	"slices"
	"testing"

	"loop.example/entail/impl"
)

// mustMake asks P59 and P60 of one thing: by hand, and by what the program says of the memory behind.
func mustMake(t *testing.T, h memHand, m impl.Mem, class int, n int, old bool) {
	t.Helper()
	behind, at := impl.MemMake(h.cs, m, class, n, old)
	o, is := h.newObj(class, n)
	switch {
	case !is:
		if at != 0 || !isNoMem(behind) {
			t.Fatalf("in %v %d of %d is made at %d: %v", m, n, class, at, behind)
		}
		return
	case sizeOf(o) > h.free(old):
		if at != 0 || !equalMems(behind, m) {
			t.Fatalf("there is no room in %v for %d of %d, but it is made at %d: %v", m, n, class, at, behind)
		}
		return
	}
	after := h.withObj(o, old)
	if want := after.mem(); !equalMems(behind, want) {
		t.Fatalf("in %v %d of %d is made so: %v, not %v", m, n, class, behind, want)
	}
	i := after.inYoung - 1
	if old {
		i = len(after.objs) - 1
	}
	if at != after.placeOf(i) {
		t.Fatalf("in %v %d of %d is made at %d, not %d", m, n, class, at, after.placeOf(i))
	}
	mustBeOneMore(t, h.cs, m, behind, at, o)
}

// mustBeOneMore is P60, without an account by hand.
func mustBeOneMore(t *testing.T, cs []impl.Class, m impl.Mem, behind impl.Mem, at int, o impl.Obj) {
	t.Helper()
	mustMemOk(t, "behind MemMake", cs, behind)
	walk, was := impl.MemWalk(cs, behind), impl.MemWalk(cs, m)
	i := slices.Index(walk, at)
	if i < 0 || slices.Contains(was, at) || !slices.Equal(slices.Delete(slices.Clone(walk), i, i+1), was) {
		t.Fatalf("things were at %v, and are at %v; one is made at %d", was, walk, at)
	}
	if objs := impl.MemObjs(cs, behind); !equalThings(objs[i], o) || impl.MemSize(cs, behind, at) != sizeOf(o) {
		t.Fatalf("made is %v, not %v", objs[i], o)
	}
	for _, at := range was {
		size := impl.MemSize(cs, m, at)
		if impl.MemSize(cs, behind, at) != size || !slices.Equal(behind.Words[at-1:at-1+size], m.Words[at-1:at-1+size]) {
			t.Fatalf("what is at %d of %v is another in %v", at, m, behind)
		}
	}
	if !slices.Equal(behind.Cards, m.Cards) {
		t.Fatalf("cards of %v are %v", m, behind.Cards)
	}
}

// P59, P60: each class, and each array, and such that there are not, in both parts, be these empty, full, or between.
func TestMakesInSomeMemories(t *testing.T) {
	for _, h := range someMems(7, 300) {
		m := h.mem()
		for class := -4; class <= impl.ClassMax+1; class++ {
			for n := -2; n <= impl.ArrayMax+2; n++ {
				mustMake(t, h, m, class, n, false)
				mustMake(t, h, m, class, n, true)
			}
		}
	}
}

// P59, P60
func TestMakesBehindFewMakes(t *testing.T) {
	eachMade(4, 14, 3, func(h memHand) {
		m := h.mem()
		for _, what := range allMade(h.cs) {
			mustMake(t, h, m, what.class, what.n, false)
			mustMake(t, h, m, what.class, what.n, true)
		}
	})
}

// A class that is none, and an array that is none: nothing and 0, also where there is no room; what n is does not matter of a class.
func TestMakesOfFarNumbers(t *testing.T) {
	d := &dice{state: 5}
	for _, cs := range memTrees() {
		full := d.fillPart(d.fillPart(emptyMem(cs, 9, 20), false, 0), true, 0)
		for _, h := range []memHand{emptyMem(cs, 9, 20), full, emptyMem(cs, 0, 14)} {
			m := h.mem()
			for _, far := range append(noClasses(cs), -3, impl.ArrayMax+1, impl.ArrayMax+2, -129, 128) {
				for _, old := range []bool{false, true} {
					mustMake(t, h, m, far, 0, old)
					mustMake(t, h, m, impl.ClassInts, far, old)
					mustMake(t, h, m, impl.ClassRefs, far, old)
					for class := range cs {
						mustMake(t, h, m, class, far, old)
					}
				}
			}
		}
	}
}

// withFree is a memory of which just so many words of a part are not in use.
func withFree(cs []impl.Class, old bool, words int) memHand {
	h := emptyMem(cs, 12, 20)
	for h.free(old) > words {
		h = h.withObj(thing(0), old)
	}
	return h
}

// P59: room for the last word, and one word too few.
func TestMakesWithJustRoom(t *testing.T) {
	for _, cs := range memTrees() {
		for _, what := range allMade(cs) {
			for _, old := range []bool{false, true} {
				size := sizeOf(emptyMem(cs, 0, 14).made(what))
				h := withFree(cs, old, size)
				mustMake(t, h, h.mem(), what.class, what.n, old)
				behind, at := impl.MemMake(cs, h.mem(), what.class, what.n, old)
				if at == 0 || !old && behind.Top != behind.Young || old && behind.Old != len(behind.Words) {
					t.Fatalf("%v of %v does not fill the part: %v", what, cs, behind)
				}
				h = withFree(cs, old, size-1)
				m := h.mem()
				mustMake(t, h, m, what.class, what.n, old)
				if behind, at := impl.MemMake(cs, m, what.class, what.n, old); at != 0 || !equalMems(behind, m) {
					t.Fatalf("%v of %v is made at %d, short by one word: %v", what, cs, at, behind)
				}
			}
		}
	}
}

// The largest thing that a class may have, and the largest array, have eight words.
func TestLargestThings(t *testing.T) {
	cs := deepClasses()
	m := impl.MemNew(8, 16)
	m, young := impl.MemMake(cs, m, 4, math.MaxInt, false)
	m, old := impl.MemMake(cs, m, 4, math.MinInt, true)
	m, array := impl.MemMake(cs, m, impl.ClassRefs, impl.ArrayMax, true)
	if young != 1 || old != 9 || array != 17 || m.Top != 8 || m.Old != 24 {
		t.Fatal(young, old, array, m)
	}
	for _, at := range []int{young, old, array} {
		if size := impl.MemSize(cs, m, at); size != 8 {
			t.Errorf("at %d are %d words", at, size)
		}
	}
	want := things(thing(4, word(0), ref(0), word(0), ref(0), ref(0), word(0), ref(0)), thing(4, word(0), ref(0), word(0), ref(0), ref(0), word(0), ref(0)), thing(impl.ClassRefs, refs(0, 0, 0, 0, 0, 0)...))
	if objs := impl.MemObjs(cs, m); !slices.EqualFunc(objs, want, equalThings) {
		t.Error(objs)
	}
}

// A young part of no words has no room even for what has just one; the old one has.
func TestMakesInAYoungPartOfNoWords(t *testing.T) {
	cs := knownClasses()
	m := impl.MemNew(0, 14)
	if behind, at := impl.MemMake(cs, m, impl.ClassRoot, 0, false); at != 0 || !equalMems(behind, m) {
		t.Error(behind, at)
	}
	if behind, at := impl.MemMake(cs, m, impl.ClassRoot, 0, true); at != 1 || behind.Old != 1 || behind.Top != 0 {
		t.Error(behind, at)
	}
}

// Parts of the largest size, filled to the last word by things of one word, and by the largest.
func TestFullParts(t *testing.T) {
	for _, what := range []madeThing{{0, 0}, {4, 0}, {impl.ClassInts, 6}, {impl.ClassRefs, 0}, {impl.ClassInts, 2}} {
		cs := deepClasses()
		m := impl.MemNew(impl.YoungMax, impl.OldMax)
		size := sizeOf(emptyMem(cs, 0, 14).made(what))
		for i := range impl.YoungMax / size {
			m = mustMakeAt(t, cs, m, what, false, 1+i*size)
		}
		for i := range impl.OldMax / size {
			m = mustMakeAt(t, cs, m, what, true, impl.YoungMax+1+i*size)
		}
		if m.Top != impl.YoungMax || m.Old != len(m.Words) || len(impl.MemWalk(cs, m)) != 160/size {
			t.Fatalf("%v does not fill %v", what, m)
		}
		mustLieClose(t, cs, m)
		for _, old := range []bool{false, true} {
			if behind, at := impl.MemMake(cs, m, impl.ClassRoot, 0, old); at != 0 || !equalMems(behind, m) {
				t.Fatalf("a thing is made at %d of a full part", at)
			}
		}
	}
}

func mustMakeAt(t *testing.T, cs []impl.Class, m impl.Mem, what madeThing, old bool, want int) impl.Mem {
	t.Helper()
	behind, at := impl.MemMake(cs, m, what.class, what.n, old)
	if at != want {
		t.Fatalf("%v is made at %d, not %d", what, at, want)
	}
	return behind
}

// P60: what is made in one part leaves the other one as it is, also what leads there.
func TestMakesBesideWhatLeads(t *testing.T) {
	h := emptyMem(knownClasses(), 8, 20)
	h = h.withObj(thing(impl.ClassRefs, ref(0), ref(0)), false).withObj(thing(2, ref(0), ref(0)), true)
	h.objs[0].Vals[0], h.objs[0].Vals[1] = ref(1), ref(2)
	h.objs[1].Vals[0], h.objs[1].Vals[1] = ref(2), ref(1)
	h = h.withNeeded()
	for _, what := range allMade(h.cs) {
		mustMake(t, h, h.mem(), what.class, what.n, false)
		mustMake(t, h, h.mem(), what.class, what.n, true)
	}
}
