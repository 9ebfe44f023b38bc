package tests

import (
	"math"
	"slices"
	"testing"

	"loop.example/entail/impl"
)

func mustShape(t *testing.T, cs []impl.Class, locals int, s impl.Shape, want bool) {
	t.Helper()
	if impl.ShapeOk(cs, locals, s) != want {
		t.Fatalf("ShapeOk(%v, %d, %v) is not %v", cs, locals, s, want)
	}
}

// P12.
func TestKnownShapes(t *testing.T) {
	cs := knownClasses()
	n := impl.TypeClass
	for _, c := range []struct {
		locals int
		s      impl.Shape
		want   bool
	}{
		{0, impl.Shape{}, true},
		{3, impl.Shape{}, true},
		{0, impl.Shape{Any: true}, true},
		{0, impl.Shape{Any: true, Locals: []int{}, Stack: []int{}}, true},
		{2, impl.Shape{Any: true, Locals: []int{0, 0}}, true},
		{3, impl.Shape{Any: true, Locals: []int{0, 1, 2}, Stack: []int{3, 4, n, n + 4}}, true},
		{3, impl.Shape{Any: true, Locals: []int{3, n, n + 4}, Stack: []int{2, 2, 1, 1}}, true},
		{1, impl.Shape{Any: true}, false},
		{0, impl.Shape{Any: true, Locals: []int{1}}, false},
		{1, impl.Shape{Any: true, Locals: []int{1, 1}}, false},
		{2, impl.Shape{Any: true, Locals: []int{1}}, false},
		{0, impl.Shape{Any: true, Stack: []int{1, 1, 1, 1, 1}}, false},
		{0, impl.Shape{Any: true, Stack: []int{0}}, false},
		{0, impl.Shape{Any: true, Stack: []int{1, 1, 1, 0}}, false},
		{0, impl.Shape{Any: true, Stack: []int{n + 5}}, false},
		{1, impl.Shape{Any: true, Locals: []int{n + 5}}, false},
		{1, impl.Shape{Any: true, Locals: []int{5}}, false},
		{-1, impl.Shape{Any: true}, false},
	} {
		mustShape(t, cs, c.locals, c.s, c.want)
	}
}

// P12: one that tells nothing has nothing in it, neither types nor what is none.
func TestShapesThatTellNothing(t *testing.T) {
	for _, cs := range [][]impl.Class{twoClasses(), knownClasses()} {
		for _, locals := range allInts() {
			mustShape(t, cs, locals, impl.Shape{}, true)
			mustShape(t, cs, locals, impl.Shape{Locals: []int{}, Stack: []int{}}, true)
		}
		for _, list := range [][]int{{0}, {1}, {8}, {1, 1}, {-1}, {5}} {
			for _, locals := range []int{0, 1, 2, 3} {
				mustShape(t, cs, locals, impl.Shape{Locals: list}, false)
				mustShape(t, cs, locals, impl.Shape{Stack: list}, false)
				mustShape(t, cs, locals, impl.Shape{Locals: list, Stack: list}, false)
			}
		}
	}
}

// P12: all numbers of locals and on the stack around the limits, each type, and what is none, at each place.
func TestShapesOfEachTypeAtEachPlace(t *testing.T) {
	for _, cs := range [][]impl.Class{twoClasses(), everyTree(3, 2)[1], knownClasses()} {
		for locals := range impl.LocalMax + 2 {
			for stack := range impl.StackMax + 3 {
				s := impl.Shape{Any: true, Locals: slices.Repeat([]int{impl.TypeRefs}, locals), Stack: slices.Repeat([]int{impl.TypeInt}, stack)}
				mustShape(t, cs, locals, s, stack <= impl.StackMax)
				mustShapeOfEachType(t, cs, s)
			}
		}
	}
}

func mustShapeOfEachType(t *testing.T, cs []impl.Class, s impl.Shape) {
	t.Helper()
	for _, list := range [][]int{s.Locals, s.Stack} {
		for i, was := range list {
			for _, n := range append(allInts(), noTypes(cs)...) {
				list[i] = n
				for _, locals := range []int{len(s.Locals), len(s.Locals) - 1, len(s.Locals) + 1, math.MinInt, math.MaxInt} {
					mustShape(t, cs, locals, s, shapeOkByHand(cs, locals, s))
				}
			}
			list[i] = was
		}
	}
}

// P12, by its own words.
func TestShapesThatTellSomethingTellOfAll(t *testing.T) {
	lists := [][]int{nil, {0}, {1}, {2}, {3}, {8}, {9}, {10}, {1, 0}, {0, 1}, {4, 8}, {2, 9, 1}, {0, 0, 0}, {1, 1, 1, 1}, {8, 3, 2, 0}, {1, 1, 1, 1, 1}, {5}, {-1, 1}}
	told := 0
	for _, stack := range lists {
		for _, list := range lists {
			for locals := -1; locals <= 5; locals++ {
				s := impl.Shape{Any: true, Locals: list, Stack: stack}
				if !impl.ShapeOk(twoClasses(), locals, s) {
					continue
				}
				told++
				if len(list) != locals || len(stack) > impl.StackMax || slices.Contains(stack, impl.TypeNone) {
					t.Fatalf("%v is ok for %d locals", s, locals)
				}
			}
		}
	}
	if told == 0 {
		t.Error("no shape tells anything")
	}
}

// P12: without classes that are ok none is, not even one that tells nothing.
func TestNoShapeOfClassesThatAreNotOk(t *testing.T) {
	for _, cs := range spoiltClasses() {
		for locals := range 3 {
			mustShape(t, cs, locals, impl.Shape{}, false)
			mustShape(t, cs, locals, impl.Shape{Any: true, Locals: make([]int, locals)}, false)
			mustShape(t, cs, locals, impl.Shape{Any: true, Locals: slices.Repeat([]int{8}, locals), Stack: []int{1, 9}}, false)
		}
	}
}
