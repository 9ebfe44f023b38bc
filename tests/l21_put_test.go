package tests

import (
	"math"
	"slices"
	"testing"

	"loop.example/entail/impl"
)

// mustPut asks MemPut and MemGet of one place, by hand.
func mustPut(t *testing.T, h memHand, m impl.Mem, at int, k int, v int) {
	t.Helper()
	behind, ok := impl.MemPut(h.cs, m, at, k, v)
	i := slices.Index(h.places(), at)
	may := i >= 0 && k >= 0 && k < len(h.objs[i].Vals)
	var val impl.Val
	if may {
		val, may = h.mayBe(h.objs[i].Vals[k], v)
	}
	if !may {
		if ok || !isNoMem(behind) {
			t.Fatalf("%d is put as %d of %d in %v: %v", v, k, at, m, behind)
		}
		return
	}
	after := h.withVal(i, k, val)
	if want := after.mem(); !ok || !equalMems(behind, want) {
		t.Fatalf("%d is put as %d of %d in %v so: %v, not %v", v, k, at, m, behind, want)
	}
}

// memSpot is a place and a number of what is in the thing there.
type memSpot struct {
	at int
	k  int
}

// got is all that can be got of a memory.
func got(cs []impl.Class, m impl.Mem) map[memSpot]int {
	all := map[memSpot]int{}
	for _, at := range impl.MemWalk(cs, m) {
		for k := range impl.MemSize(cs, m, at) + 1 {
			if v, ok := impl.MemGet(cs, m, at, k); ok {
				all[memSpot{at, k}] = v
			}
		}
	}
	return all
}

// mustBePut asks P61, P62 and P66 of a memory in which something was put that may be there.
func mustBePut(t *testing.T, cs []impl.Class, m impl.Mem, s memSpot, v int) impl.Mem {
	t.Helper()
	behind, ok := impl.MemPut(cs, m, s.at, s.k, v)
	if !ok {
		t.Fatalf("%d is not put at %v of %v", v, s, m)
	}
	mustMemOk(t, "behind MemPut", cs, behind)
	want, now := got(cs, m), got(cs, behind)
	was := want[s]
	want[s] = v
	if len(now) != len(want) {
		t.Fatalf("of %v one gets %v, not %v", behind, now, want)
	}
	for at, v := range want {
		if n, is := now[at]; !is || n != v {
			t.Fatalf("of %v one gets %v, not %v", behind, now, want)
		}
	}
	mustKeepCardsAndPlaces(t, cs, m, behind)
	again, ok := impl.MemPut(cs, behind, s.at, s.k, was)
	if !ok || !slices.Equal(again.Words, m.Words) || again.Young != m.Young || again.Top != m.Top || again.Old != m.Old {
		t.Fatalf("%d is put at %v again: %v, not %v", was, s, again, m)
	}
	mustKeepCardsAndPlaces(t, cs, behind, again)
	return behind
}

func mustKeepCardsAndPlaces(t *testing.T, cs []impl.Class, m impl.Mem, behind impl.Mem) {
	t.Helper()
	walk := impl.MemWalk(cs, m)
	if !slices.Equal(impl.MemWalk(cs, behind), walk) {
		t.Fatalf("things of %v are elsewhere in %v", m, behind)
	}
	for _, at := range walk {
		if impl.MemSize(cs, m, at) != impl.MemSize(cs, behind, at) {
			t.Fatalf("at %d it is as large in %v as it was not in %v", at, behind, m)
		}
	}
	for c, set := range m.Cards {
		if set && !behind.Cards[c] {
			t.Fatalf("card %d of %v is not set any more: %v", c, m, behind)
		}
	}
}

// mayPut is what may be put where that value is.
func (d *dice) mayPut(h memHand, was impl.Val) int {
	if was.Ref {
		return pick(d, append(h.places(), 0))
	}
	return d.roll(256) - 128
}

// P61, P62, P66: one put behind the other, so that what was put is put over.
func TestPutsInSomeMemories(t *testing.T) {
	d := &dice{state: 12}
	count := 0
	for _, h := range someMems(8, 250) {
		m := h.mem()
		for range 8 {
			if len(h.objs) == 0 {
				break
			}
			i := d.roll(len(h.objs))
			for k, was := range h.objs[i].Vals {
				m = mustBePut(t, h.cs, m, memSpot{h.placeOf(i), k}, d.mayPut(h, was))
				count++
			}
		}
	}
	if count < 1000 {
		t.Error("too few", count)
	}
}

// valuesToPut are all places of a memory, and the edges of words.
func valuesToPut(m impl.Mem) []int {
	return append(placesIn(m), math.MinInt, -130, -129, -128, -127, 126, 127, 128, 129, 256)
}

// P61 to P63: all that is in things of small memories, with each place put there, and each edge of words.
func TestPutsOfEachValue(t *testing.T) {
	count := 0
	for _, h := range someMems(9, 250) {
		if h.young > 12 || h.old > 26 {
			continue
		}
		m := h.mem()
		for i, o := range h.objs {
			for k := range o.Vals {
				for _, v := range valuesToPut(m) {
					mustPut(t, h, m, h.placeOf(i), k, v)
					count++
				}
			}
		}
	}
	if count < 50000 {
		t.Error("too few", count)
	}
}

// P61 to P63
func TestPutsBehindFewMakes(t *testing.T) {
	eachMade(4, 14, 3, func(h memHand) {
		m := h.mem()
		for i, o := range h.objs {
			for k := -1; k <= len(o.Vals); k++ {
				for _, v := range []int{-129, -128, -1, 0, 1, 2, 3, 4, 5, 6, 7, 8, 9, 127, 128} {
					mustPut(t, h, m, h.placeOf(i), k, v)
				}
			}
		}
	})
}

// P63: each place with each number, be there such or not: MemGet is true just where 0 can be put, and tells what is there.
func TestGetsOfEachPlace(t *testing.T) {
	yes, no := 0, 0
	for _, h := range someMems(10, 120) {
		m := h.mem()
		places := h.places()
		for _, at := range placesIn(m) {
			i := slices.Index(places, at)
			for _, k := range numbersIn() {
				want, is := 0, i >= 0 && k >= 0 && k < len(h.objs[i].Vals)
				if is {
					want = h.valueIn(h.objs[i].Vals[k])
					yes++
				} else {
					no++
				}
				if v, ok := impl.MemGet(h.cs, m, at, k); ok != is || v != want {
					t.Fatalf("MemGet of %v at %d, %d is %d, %t, not %d, %t", m, at, k, v, ok, want, is)
				}
				if behind, ok := impl.MemPut(h.cs, m, at, k, 0); ok != is || !ok && !isNoMem(behind) {
					t.Fatalf("MemPut of 0 in %v at %d, %d is %v, %t, not %t", m, at, k, behind, ok, is)
				}
			}
		}
	}
	if yes < 500 || no < 5000 {
		t.Error("too few of either", yes, no)
	}
}

// P61, P63: each word, and what is none, in a class's thing, and in an array.
func TestPutsOfEachWord(t *testing.T) {
	cs := knownClasses()
	for _, old := range []bool{false, true} {
		h := emptyMem(cs, 20, 20)
		h = h.withObj(thing(impl.ClassFail, word(3)), old).withObj(thing(4, word(1), ref(0), word(2)), old).withObj(thing(impl.ClassInts, word(4), word(5)), old)
		m := h.mem()
		places := h.places()
		for _, s := range []memSpot{{places[0], 0}, {places[1], 0}, {places[1], 2}, {places[2], 0}, {places[2], 1}} {
			for n := -300; n <= 300; n++ {
				mustPut(t, h, m, s.at, s.k, n)
				if n >= impl.IntLow && n <= impl.IntHigh {
					mustBePut(t, cs, m, s, n)
				} else if behind, ok := impl.MemPut(cs, m, s.at, s.k, n); ok || !isNoMem(behind) {
					t.Fatalf("%d is put at %v of %v", n, s, m)
				}
			}
			for _, n := range farInts() {
				mustPut(t, h, m, s.at, s.k, n)
			}
		}
	}
}

// putHand has in each part a thing that leads, an array that does, and one of words: at 1, 4 and 8, and at 13, 16 and 20.
func putHand() memHand {
	h := emptyMem(knownClasses(), 12, 18)
	for _, old := range []bool{false, true} {
		h = h.withObj(thing(2, ref(0), ref(0)), old).withObj(thing(impl.ClassRefs, ref(0), ref(0)), old).withObj(thing(impl.ClassInts, word(0)), old)
	}
	return h
}

// P61, P62, P63: known places, from each part: what is put, and which card is then set, -1 being none.
func TestKnownPuts(t *testing.T) {
	h := putHand()
	m := h.mem()
	if walk := impl.MemWalk(h.cs, m); !slices.Equal(walk, []int{1, 4, 8, 13, 16, 20}) {
		t.Fatal(walk)
	}
	for _, known := range []struct {
		what string
		at   int
		k    int
		v    int
		may  bool
		card int
	}{
		{"nothing", 1, 0, 0, true, -1},
		{"its own place", 1, 1, 1, true, -1},
		{"its own place in the old part", 13, 0, 13, true, -1},
		{"an array's own place", 16, 1, 16, true, -1},
		{"from the young part to it", 4, 0, 8, true, -1},
		{"from the young part to the old one", 4, 1, 20, true, -1},
		{"from the old part to it", 16, 0, 20, true, -1},
		{"from the old part to the young one", 13, 0, 1, true, 0},
		{"from the old part to the last young thing", 13, 1, 8, true, 0},
		{"from the second card", 16, 0, 4, true, 1},
		{"behind that", 16, 1, 4, true, 1},
		{"of another class than is told", 1, 0, 13, true, -1},
		{"an array where a class is told", 13, 1, 16, true, -1},
		{"a word where a young thing is", 20, 0, 4, true, -1},
		{"what is in a thing", 1, 0, 2, false, -1},
		{"how many are in an array", 1, 0, 5, false, -1},
		{"the last of an array", 4, 0, 7, false, -1},
		{"the first place not in use", 1, 0, 11, false, -1},
		{"the last place of the young part", 1, 0, 12, false, -1},
		{"the first one not in use of the old part", 13, 0, 23, false, -1},
		{"the last place", 13, 0, 30, false, -1},
		{"the one behind", 13, 0, 31, false, -1},
		{"far ahead", 13, 0, -1, false, -1},
		{"what an array has instead of a class", 16, 0, -2, false, -1},
		{"a word below", 8, 0, -129, false, -1},
		{"a word above", 20, 0, 128, false, -1},
		{"behind what is in a thing", 1, 2, 0, false, -1},
		{"ahead of it", 1, -1, 0, false, -1},
		{"behind what is in an array", 4, 2, 0, false, -1},
		{"behind the last array", 20, 1, 0, false, -1},
		{"how many are in an array is not in it", 20, -1, 0, false, -1},
		{"where none begins", 2, 0, 0, false, -1},
		{"how many are in an array is no thing", 5, 0, 0, false, -1},
		{"not in use", 11, 0, 0, false, -1},
		{"no place", 0, 0, 0, false, -1},
	} {
		mustPut(t, h, m, known.at, known.k, known.v)
		behind, ok := impl.MemPut(h.cs, m, known.at, known.k, known.v)
		if ok != known.may {
			t.Fatalf("%s: %t", known.what, ok)
		}
		if !known.may {
			continue
		}
		for c, set := range behind.Cards {
			if set != (c == known.card) {
				t.Errorf("%s: cards %v", known.what, behind.Cards)
			}
		}
		if v, ok := impl.MemGet(h.cs, behind, known.at, known.k); !ok || v != known.v {
			t.Errorf("%s: %d is there", known.what, v)
		}
	}
}

// P62: on each word of the old part: just its card is set, and stays so, whatever is put there, or elsewhere, then.
func TestPutsOnEachCard(t *testing.T) {
	eachLeading(func(h memHand, card int) {
		last := len(h.objs) - 1
		k := slices.IndexFunc(h.objs[last].Vals, func(v impl.Val) bool { return v.N != 0 })
		m := h.withVal(last, k, ref(0)).mem()
		s := memSpot{h.placeOf(last), k}
		for _, v := range []int{h.young + 1, 0, s.at} {
			if behind, ok := impl.MemPut(h.cs, m, s.at, s.k, v); !ok || slices.Contains(behind.Cards, true) {
				t.Fatalf("%d is put at %v of %v: %v", v, s, m, behind)
			}
		}
		for _, v := range []int{1, 2, 0, s.at, 2, 1} {
			behind, ok := impl.MemPut(h.cs, m, s.at, s.k, v)
			if !ok {
				t.Fatalf("%d is not put at %v of %v", v, s, m)
			}
			m = behind
			for c, set := range m.Cards {
				if set != (c == card) {
					t.Fatalf("behind a put at %v cards are %v, not just %d", s, m.Cards, card)
				}
			}
		}
	})
}

// P61, P64: things in a circle, over both parts.
func TestPutsInACircle(t *testing.T) {
	h := putHand()
	m := h.mem()
	circle := []memSpot{{1, 0}, {13, 1}, {4, 1}, {16, 0}}
	for i, s := range circle {
		m = mustBePut(t, h.cs, m, s, circle[(i+1)%len(circle)].at)
	}
	at := 1
	for range circle {
		i := slices.IndexFunc(circle, func(s memSpot) bool { return s.at == at })
		at, _ = impl.MemGet(h.cs, m, at, circle[i].k)
	}
	if at != 1 {
		t.Error("the circle ends elsewhere", at)
	}
	want := things(thing(2, ref(4), ref(0)), thing(impl.ClassRefs, ref(0), ref(5)), thing(impl.ClassInts, word(0)), thing(2, ref(0), ref(2)), thing(impl.ClassRefs, ref(1), ref(0)), thing(impl.ClassInts, word(0)))
	if objs := impl.MemObjs(h.cs, m); !slices.EqualFunc(objs, want, equalThings) {
		t.Error(objs)
	}
	if !slices.Equal(m.Cards, []bool{true, true, false, false, false}) {
		t.Error(m.Cards)
	}
}

// P61, P63: the first and the last of the largest thing and of the largest array, and one ahead and behind.
func TestPutsAtTheEndsOfThings(t *testing.T) {
	cs := deepClasses()
	for _, old := range []bool{false, true} {
		h := emptyMem(cs, 40, 60)
		for _, what := range []madeThing{{0, 0}, {4, 0}, {impl.ClassInts, 0}, {impl.ClassRefs, 0}, {impl.ClassInts, 6}, {impl.ClassRefs, 6}, {impl.ClassRoot, 0}} {
			h = h.withObj(h.made(what), old)
		}
		m := h.mem()
		for i, o := range h.objs {
			size := len(o.Vals)
			for k := -2; k <= size+2; k++ {
				mustPut(t, h, m, h.placeOf(i), k, 0)
				if v, ok := impl.MemGet(cs, m, h.placeOf(i), k); ok != (k >= 0 && k < size) || v != 0 {
					t.Fatalf("%d of %v is %d, %t", k, o, v, ok)
				}
				if k >= 0 && k < size {
					mustBePut(t, cs, m, memSpot{h.placeOf(i), k}, 0)
				}
			}
		}
	}
}

// P64: MemObjs have what MemGet tells: words, or where those begin that are led to.
func TestThingsHaveWhatIsGot(t *testing.T) {
	leads := 0
	for _, h := range someMems(11, 200) {
		m := h.mem()
		walk, objs := impl.MemWalk(h.cs, m), impl.MemObjs(h.cs, m)
		if len(objs) != len(walk) {
			t.Fatalf("%d things are at %d places of %v", len(objs), len(walk), m)
		}
		for i, o := range objs {
			if o.Class != m.Words[walk[i]-1] {
				t.Fatalf("at %d of %v is %v", walk[i], m, o)
			}
			for k, v := range o.Vals {
				want := v.N
				if v.Ref && v.N != 0 {
					want = walk[v.N-1]
					leads++
				}
				if n, ok := impl.MemGet(h.cs, m, walk[i], k); !ok || n != want {
					t.Fatalf("%d of %v at %d of %v is %d", k, o, walk[i], m, n)
				}
			}
		}
	}
	if leads < 500 {
		t.Error("too few", leads)
	}
}

// P59 to P66: makes and puts, one behind the other, from MemNew on, each by hand, too.
func TestMakesAndPutsInTurns(t *testing.T) {
	d := &dice{state: 77}
	for range 150 {
		h := emptyMem(pick(d, memTrees()), d.roll(41), impl.OldMin+d.roll(40))
		m := impl.MemNew(h.young, h.old)
		for range 40 {
			h, m = d.someTurn(t, h, m)
			if want := h.mem(); !equalMems(m, want) {
				t.Fatalf("it is %v, not %v", m, want)
			}
		}
		mustBeAsMemHand(t, h)
	}
}

// someTurn makes something, or puts something into a thing.
func (d *dice) someTurn(t *testing.T, h memHand, m impl.Mem) (memHand, impl.Mem) {
	t.Helper()
	what, old := pick(d, allMade(h.cs)), d.roll(2) == 0
	if d.roll(3) == 0 || len(h.objs) == 0 {
		mustMake(t, h, m, what.class, what.n, old)
		m, at := impl.MemMake(h.cs, m, what.class, what.n, old)
		if at != 0 {
			h = h.withObj(h.made(what), old)
		}
		return h, m
	}
	i := d.roll(len(h.objs))
	for k, was := range h.objs[i].Vals {
		n := d.mayPut(h, was)
		m = mustBePut(t, h.cs, m, memSpot{h.placeOf(i), k}, n)
		v, _ := h.mayBe(was, n)
		h = h.withVal(i, k, v)
	}
	return h, m
}
