package tests

import (
	"reflect"
	"slices"
	"testing"

	"loop.example/entail/impl"
)

// gcAnswer is what a function that moves gives back: a memory, and roots, or what is live.
type gcAnswer struct {
	mem    impl.Mem
	places []int
}

func (a gcAnswer) copied() gcAnswer {
	return gcAnswer{copyMem(a.mem), slices.Clone(a.places)}
}

func (a gcAnswer) equals(b gcAnswer) bool {
	return equalMems(a.mem, b.mem) && slices.Equal(a.places, b.places)
}

// overwritten writes into all lists, spare room included, and finds in the words what it wrote there, behind the roots: they share nothing.
func (a gcAnswer) overwritten(t *testing.T) {
	t.Helper()
	overwriteMem(a.mem)
	places := a.places[:cap(a.places)]
	for i := range places {
		places[i] = spareMark + 1
	}
	for _, n := range a.mem.Words[:cap(a.mem.Words)] {
		if n != spareMark {
			t.Fatal("words and roots share memory")
		}
	}
}

// gcAsks ask each function that moves: also where there is room at once, where nothing moves, and where there is no room at all.
func gcAsks(cs []impl.Class, m impl.Mem, roots []int) []func() gcAnswer {
	asks := []func() gcAnswer{
		func() gcAnswer { return gcAnswer{places: impl.GcLive(cs, m, roots)} },
		func() gcAnswer {
			behind, then, _ := impl.GcMinor(cs, m, roots)
			return gcAnswer{behind, then}
		},
		func() gcAnswer {
			behind, then, _ := impl.GcMajor(cs, m, roots)
			return gcAnswer{behind, then}
		},
	}
	for _, what := range []madeThing{{0, 0}, {1, 0}, {impl.ClassInts, 6}, {impl.ClassRefs, 1}, {impl.ClassRefs, 0}, {impl.ClassInts, 7}, {-3, 0}} {
		asks = append(asks, func() gcAnswer {
			behind, then, _ := impl.GcMake(cs, m, roots, what.class, what.n)
			return gcAnswer{behind, then}
		})
	}
	return asks
}

// eachGcToAsk visits memories and roots that are ok, and such that are not, with marks behind all ends.
func eachGcToAsk(visit func(cs []impl.Class, m impl.Mem, roots []int)) {
	for _, r := range someRooted(51, 150) {
		visit(r.cs, spareMem(r.mem()), spare(r.rootPlaces(), spareMark))
		visit(r.cs, r.mem(), slices.Clone(r.rootPlaces()))
	}
	for _, known := range slices.Concat(movesByRoots(), movesByLeads()) {
		visit(known.r.cs, spareMem(known.r.mem()), spare(known.r.rootPlaces(), spareMark))
	}
	for _, known := range slices.Concat(makesInTheYoungPart(), makesInTheOldPart()) {
		visit(known.r.cs, spareMem(known.r.mem()), spare(known.r.rootPlaces(), spareMark))
	}
	for _, m := range append(spoiltMems(), putHand().mem(), impl.MemNew(0, 14), impl.MemNew(40, 120)) {
		for _, roots := range rootsToTry() {
			visit(knownClasses(), spareMem(m), spare(roots, spareMark))
			visit(twoClasses(), spareMem(m), roots)
		}
	}
	for _, cs := range spoiltClasses() {
		visit(cs, spareMem(putHand().mem()), spare([]int{1}, spareMark))
	}
	visit(nil, impl.Mem{}, nil)
}

// Nothing is written into an argument, or behind its end; each list of an answer is memory of its own, also where nothing moves: writing into it changes no argument, no other list, and no other answer.
func TestMovesAreNewMemory(t *testing.T) {
	eachGcToAsk(func(first []impl.Class, m impl.Mem, roots []int) {
		cs, ground := withSpareRoom(first)
		wasGround, was, wasRoots := slices.Clone(ground), wholeMem(m), slices.Clone(roots[:cap(roots)])
		mustStay := func() {
			t.Helper()
			if now := wholeMem(m); !reflect.DeepEqual(now, was) || !slices.Equal(roots[:cap(roots)], wasRoots) || !slices.Equal(ground, wasGround) || !sameClasses(cs, first) {
				t.Fatalf("%v, %v of %v is %v, %v of %v now", was, wasRoots, first, now, roots, cs)
			}
		}
		mustAnswerApart(t, gcAsks(cs, m, roots), mustStay)
	})
}

// Roots that lie in the memory's own words are an argument like others.
func TestRootsInTheWordsOfTheMemory(t *testing.T) {
	r := knownRooted(9, 20, things(refsArray(2, 3), mark(1)), things(refsArray(1)))
	m := r.mem()
	roots := m.Words[2:4]
	apart := slices.Clone(roots)
	if !slices.Equal(apart, []int{5, 10}) {
		t.Fatal(apart)
	}
	was := wholeMem(m)
	other := copyMem(m)
	for i, ask := range gcAsks(r.cs, m, roots) {
		want := gcAsks(r.cs, other, apart)[i]()
		one := ask()
		if !one.equals(want) {
			t.Fatalf("it is %v, not %v", one, want)
		}
		one.overwritten(t)
		if now := wholeMem(m); !reflect.DeepEqual(now, was) {
			t.Fatalf("%v is %v now", was, now)
		}
	}
}

// What was given back is the argument of the next: it stays as it is, whatever is moved and made then.
func TestMovesOfMovesAreNewMemory(t *testing.T) {
	for _, r := range someRooted(52, 300) {
		m, roots, ok := impl.GcMinor(r.cs, r.mem(), r.rootPlaces())
		if !ok {
			continue
		}
		was, wasRoots := wholeMem(m), slices.Clone(roots)
		for range 2 {
			for _, ask := range gcAsks(r.cs, m, roots) {
				ask().overwritten(t)
				if now := wholeMem(m); !reflect.DeepEqual(now, was) || !slices.Equal(roots, wasRoots) {
					t.Fatalf("%v, %v is %v, %v now", was, wasRoots, now, roots)
				}
			}
		}
	}
}

// What is answered is the same each time: it does not hang on the order in which a map is gone through.
func TestMovesAreTheSameEachTime(t *testing.T) {
	var youngs []impl.Obj
	for i := range 10 {
		youngs = append(youngs, refsArray((i+3)%10+1, (i+7)%10+1))
	}
	r := knownRooted(40, 80, youngs, things(refsArray(9, 2, 5)), 4, 1, 8)
	m, roots := r.mem(), r.rootPlaces()
	for i := range gcAsks(r.cs, m, roots) {
		want := gcAsks(r.cs, m, roots)[i]()
		for range 200 {
			if again := gcAsks(r.cs, m, roots)[i](); !again.equals(want) {
				t.Fatalf("it is %v, and was %v", again, want)
			}
		}
	}
}
