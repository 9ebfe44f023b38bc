package tests

import (
	"math"
	"slices"
	"testing"

	"loop.example/entail/impl"
)

// mustNotMove asks for the one answer that all functions have where a memory is not ok, or roots are not so.
func mustNotMove(t *testing.T, what string, cs []impl.Class, m impl.Mem, roots []int) {
	t.Helper()
	if live := impl.GcLive(cs, m, roots); len(live) != 0 {
		t.Fatalf("%s: live in %v, from %v, are %v", what, m, roots, live)
	}
	if behind, then, ok := impl.GcMinor(cs, m, roots); ok || len(then) != 0 || !isNoMem(behind) {
		t.Fatalf("%s: GcMinor of %v, %v is %v, %v", what, m, roots, behind, then)
	}
	if behind, then, ok := impl.GcMajor(cs, m, roots); ok || len(then) != 0 || !isNoMem(behind) {
		t.Fatalf("%s: GcMajor of %v, %v is %v, %v", what, m, roots, behind, then)
	}
	for _, made := range []madeThing{{0, 0}, {1, math.MaxInt}, {impl.ClassInts, 0}, {impl.ClassRefs, 6}, {impl.ClassRefs, 7}, {-3, 0}, {math.MinInt, math.MinInt}, {math.MaxInt, -1}} {
		if behind, then, at := impl.GcMake(cs, m, roots, made.class, made.n); at != 0 || len(then) != 0 || !isNoMem(behind) {
			t.Fatalf("%s: GcMake of %v in %v, %v is %v, %v, %d", what, made, m, roots, behind, then, at)
		}
	}
}

// rootsToTry are none, nothing, and places of things, be these there or not.
func rootsToTry() [][]int {
	return [][]int{nil, {}, {0}, {1}, {0, 0, 7}, {-1}, {math.MinInt}, {math.MaxInt, 0}}
}

func TestMovesInMemoriesThatAreNotOk(t *testing.T) {
	for _, m := range spoiltMems() {
		for _, roots := range rootsToTry() {
			mustNotMove(t, "spoilt", knownClasses(), m, roots)
		}
	}
	for _, roots := range rootsToTry() {
		mustNotMove(t, "nothing at all", nil, impl.Mem{}, roots)
	}
}

func TestMovesOfClassesThatAreNotOk(t *testing.T) {
	root := emptyMem(knownClasses(), 4, 14).withObj(thing(0), false).withObj(thing(0), true)
	for _, cs := range spoiltClasses() {
		for _, roots := range rootsToTry() {
			mustNotMove(t, "classes are not ok", cs, root.mem(), roots)
			mustNotMove(t, "classes are not ok", cs, impl.MemNew(4, 14), roots)
		}
	}
}

// A memory that is ok but for one word to which nothing leads, or one card.
func TestMovesWhereOneNumberIsWrong(t *testing.T) {
	not := 0
	for _, r := range someRooted(41, 60) {
		m, roots := r.mem(), r.rootPlaces()
		for _, n := range numbersOfMem(&m) {
			was := *n
			for _, *n = range []int{-3, was + 1, 300, math.MinInt, math.MaxInt} {
				if !impl.MemOk(r.cs, m) {
					mustNotMove(t, "one number changed", r.cs, m, roots)
					not++
				}
			}
			*n = was
		}
		for c, set := range m.Cards {
			m.Cards[c] = !set
			if !impl.MemOk(r.cs, m) {
				mustNotMove(t, "a card taken away", r.cs, m, roots)
				not++
			}
			m.Cards[c] = set
		}
	}
	if not < 2000 {
		t.Error("too few", not)
	}
}

// A root that leads to where no thing begins: below 0, past the end, in the middle of a thing, not in use, or far away; ahead of others, behind them, and alone.
func TestRootsWhereNoThingBegins(t *testing.T) {
	count := 0
	for _, r := range someRooted(42, 60) {
		m, good := r.mem(), r.rootPlaces()
		for _, at := range placesIn(m) {
			if at == 0 || slices.Contains(r.places(), at) {
				if live := impl.GcLive(r.cs, m, []int{at}); (len(live) == 0) != (at == 0) {
					t.Fatalf("live in %v, from %d, are %v", m, at, live)
				}
				continue
			}
			for _, roots := range [][]int{{at}, append(slices.Clone(good), at), append([]int{at}, good...), append([]int{at, 0, at}, good...)} {
				mustNotMove(t, "no thing begins there", r.cs, m, roots)
			}
			count++
		}
	}
	if count < 1500 {
		t.Error("too few", count)
	}
}

func TestKnownRootsWhereNoThingBegins(t *testing.T) {
	r := knownRooted(9, 20, things(refsArray(2), mark(1)), things(refsArray(1), thing(0)))
	m := r.mem()
	if walk := impl.MemWalk(r.cs, m); !slices.Equal(walk, []int{1, 4, 10, 13}) {
		t.Fatal(walk)
	}
	for _, at := range append(farInts(), -128, -2, -1, 2, 3, 5, 6, 7, 8, 9, 11, 12, 14, 15, 29, 30, 31, 160, 161) {
		mustNotMove(t, "no thing begins there", r.cs, m, []int{at})
		mustNotMove(t, "no thing begins there", r.cs, m, []int{1, 4, 10, 13, at})
		mustNotMove(t, "no thing begins there", r.cs, m, []int{at, 1})
	}
	r.roots = []int{1, 2, 3, 4, 0}
	if !mustHoldMinor(t, r) || !mustHoldMajor(t, r) {
		t.Error("all things begin there")
	}
}

// A class that is none, or an array that is none: nothing and 0, be there room or not, and whether or not something could be moved.
func TestGcMakesOfNoClass(t *testing.T) {
	memories := []rooted{
		knownRooted(9, 20, marks(2), marks(2), 1, 3),
		knownRooted(4, 14, marks(2), marks(7), 1, 3),
		knownRooted(4, 14, marks(2), marks(7), 1, 2, 3, 4, 5, 6, 7, 8, 9),
		knownRooted(0, 14, nil, nil),
	}
	for _, r := range memories {
		for _, far := range append(noClasses(r.cs), -3, impl.ArrayMax+1, impl.ArrayMax+2, -129, 128) {
			for _, made := range []madeThing{{far, 0}, {far, far}, {impl.ClassInts, far}, {impl.ClassRefs, far}} {
				// A number may be a class, or how many are in an array, all the same.
				if _, is := r.newObj(made.class, made.n); !is {
					mustHoldMake(t, r, made.class, made.n)
				}
			}
			for class := range r.cs {
				mustHoldMake(t, r, class, far)
			}
		}
	}
}
