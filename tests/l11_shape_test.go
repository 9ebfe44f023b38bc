package tests

import (
	"slices"
	"testing"

	"loop.example/entail/impl"
)

func mustShapeIn(t *testing.T, cs []impl.Class, a impl.Shape, b impl.Shape, want bool) {
	t.Helper()
	if impl.ShapeIn(cs, a, b) != want {
		t.Fatalf("ShapeIn(%v, %v, %v) is not %v", cs, a, b, want)
	}
}

// mustShapesJoin asks both orders.
func mustShapesJoin(t *testing.T, cs []impl.Class, a impl.Shape, b impl.Shape, want impl.Shape) {
	t.Helper()
	if s := impl.ShapeJoin(cs, a, b); !equalShapes(s, want) {
		t.Fatalf("ShapeJoin(%v, %v, %v) is %v, not %v", cs, a, b, s, want)
	}
	if s := impl.ShapeJoin(cs, b, a); !equalShapes(s, want) {
		t.Fatalf("ShapeJoin(%v, %v, %v) is %v, not %v", cs, b, a, s, want)
	}
}

// everyList is all lists of so many of the types.
func everyList(types []int, size int) [][]int {
	lists := [][]int{nil}
	for range size {
		var longer [][]int
		for _, list := range lists {
			for _, t := range types {
				longer = append(longer, append(slices.Clone(list), t))
			}
		}
		lists = longer
	}
	return lists
}

// everyShape is all ok shapes with so many locals, and so many on the stack.
func everyShape(cs []impl.Class, locals int, stack int) []impl.Shape {
	var all []impl.Shape
	for _, l := range everyList(allTypes(cs), locals) {
		for _, s := range everyList(allTypes(cs)[1:], stack) {
			all = append(all, shape(l, s...))
		}
	}
	return all
}

// fewShapes are all of few locals, and few on the stack, so that many do not fit.
func fewShapes(cs []impl.Class) []impl.Shape {
	return slices.Concat(everyShape(cs, 0, 0), everyShape(cs, 1, 0), everyShape(cs, 0, 1), everyShape(cs, 1, 1))
}

// wrongShapes are not ok for any number of locals, or are nothing.
func wrongShapes(cs []impl.Class) []impl.Shape {
	all := []impl.Shape{{}, {Locals: []int{}, Stack: []int{}}, {Locals: []int{1}}, {Stack: []int{1}}, {Locals: []int{1}, Stack: []int{1}},
		shape(nil, 0), shape([]int{1}, 0), shape(nil, 1, 0), shape(nil, 0, 1), shape(nil, 1, 1, 1, 1, 1), shape([]int{1}, 2, 2, 2, 2, 2), shape(nil, 1, 1, 1, 1, 0), shape(nil, make([]int, 100)...)}
	for _, n := range noTypes(cs) {
		all = append(all, shape([]int{n}), shape(nil, n), shape([]int{1, n}, 1), shape([]int{1}, 1, n), shape([]int{n}, n))
	}
	return all
}

// P17.
func TestKnownShapesIn(t *testing.T) {
	cs := knownClasses()
	for _, c := range []struct {
		a    impl.Shape
		b    impl.Shape
		want bool
	}{
		{shape(nil), shape(nil), true},
		{shape([]int{}), shape(nil), true},
		{shape([]int{0}), shape([]int{0}), true},
		{shape([]int{1}), shape([]int{0}), true},
		{shape([]int{0}), shape([]int{1}), false},
		{shape([]int{2, 11}), shape([]int{3, 10}), true},
		{shape([]int{2, 10}), shape([]int{3, 11}), false},
		{shape([]int{3, 10}), shape([]int{2, 10}), false},
		{shape(nil, 11), shape(nil, 10), true},
		{shape(nil, 10), shape(nil, 11), false},
		{shape(nil, 3), shape(nil, 8), true},
		{shape(nil, 3), shape(nil, 4), false},
		{shape(nil, 1), shape(nil, 8), false},
		{shape([]int{1, 2, 3}, 4, 2, 12, 1), shape([]int{0, 9, 8}, 8, 10, 9, 1), true},
		{shape([]int{1, 2, 3}, 4, 2, 12, 1), shape([]int{0, 9, 8}, 8, 10, 9, 8), false},
		{shape([]int{1, 2, 3}, 4, 2, 12, 1), shape([]int{0, 9, 4}, 8, 10, 9, 1), false},
		{shape([]int{1}), shape(nil), false},
		{shape(nil), shape([]int{0}), false},
		{shape(nil, 1), shape(nil), false},
		{shape(nil), shape(nil, 1), false},
		{shape(nil, 1, 1), shape(nil, 1), false},
		{shape([]int{1}, 2), shape([]int{1, 2}), false},
		{shape([]int{1, 1, 1, 1, 1, 1}), shape([]int{0, 1, 0, 1, 0, 1}), true},
	} {
		mustShapeIn(t, cs, c.a, c.b, c.want)
	}
}

// P17: the full stack may be met exactly, with one more none is in any.
func TestShapesInAtTheEdgeOfTheStack(t *testing.T) {
	for size := range impl.StackMax + 3 {
		s := shape([]int{0}, slices.Repeat([]int{1}, size)...)
		mustShapeIn(t, twoClasses(), s, s, size <= impl.StackMax)
		want := impl.Shape{}
		if size <= impl.StackMax {
			want = s
		}
		mustShapesJoin(t, twoClasses(), s, s, want)
	}
}

// P17, P18: all pairs.
func TestShapesByHand(t *testing.T) {
	for _, cs := range [][]impl.Class{twoClasses(), everyTree(3, 4)[0], everyTree(3, 0)[1], knownClasses()} {
		h := handOf(impl.Unit{Classes: cs})
		few := fewShapes(cs)
		for _, a := range few {
			for _, b := range few {
				mustShapeIn(t, cs, a, b, h.shapeIn(a, b))
				mustShapesJoin(t, cs, a, b, h.shapeJoin(a, b))
			}
		}
	}
}

// P17, P18: large ones, of which most types are near.
func TestLargeShapesByHand(t *testing.T) {
	d := &dice{state: 17}
	in, joined := 0, 0
	for range 4000 {
		cs := pick(d, everyTree(5, d.roll(6)))
		h := handOf(impl.Unit{Classes: cs})
		a := d.someShape(cs, d.roll(5), d.roll(impl.StackMax+1))
		b := copyOfShape(a)
		for _, list := range [][]int{b.Locals, b.Stack} {
			for i, low := range list {
				if high := pick(d, allTypes(cs)[1:]); h.in[low][high] || d.roll(6) == 0 {
					list[i] = high
				}
			}
		}
		mustShapeIn(t, cs, a, b, h.shapeIn(a, b))
		mustShapeIn(t, cs, b, a, h.shapeIn(b, a))
		mustShapesJoin(t, cs, a, b, h.shapeJoin(a, b))
		if h.shapeIn(a, b) {
			in++
		}
		if h.shapeJoin(a, b).Any {
			joined++
		}
	}
	if in < 1000 || in > 3900 || joined <= in || joined > 3900 {
		t.Error("too few of something", in, joined)
	}
}

// P17, by its own words.
func TestShapesAreInOrder(t *testing.T) {
	cs := everyTree(3, 2)[0]
	few := fewShapes(cs)
	for _, a := range few {
		mustShapeIn(t, cs, a, a, true)
		for _, b := range few {
			if !impl.ShapeIn(cs, a, b) {
				continue
			}
			mustShapeIn(t, cs, b, a, equalShapes(a, b))
			for _, c := range few {
				if impl.ShapeIn(cs, b, c) {
					mustShapeIn(t, cs, a, c, true)
				}
			}
		}
	}
}

// P18, by its own words; and where nothing is told there is none in which both are.
func TestShapeJoinIsTheNearest(t *testing.T) {
	cs := everyTree(3, 1)[1]
	few := fewShapes(cs)
	for _, a := range few {
		for _, b := range few {
			join := impl.ShapeJoin(cs, a, b)
			if join.Any {
				mustShapeIn(t, cs, a, join, true)
				mustShapeIn(t, cs, b, join, true)
			} else if !isNothing(join) {
				t.Fatalf("ShapeJoin(%v, %v, %v) is %v", cs, a, b, join)
			}
			mustShapesJoin(t, cs, b, a, join)
			for _, c := range few {
				if impl.ShapeIn(cs, a, c) && impl.ShapeIn(cs, b, c) {
					mustShapeIn(t, cs, join, c, true)
				}
			}
		}
	}
}

// P18.
func TestKnownShapesJoined(t *testing.T) {
	cs := knownClasses()
	for _, c := range [][3]impl.Shape{
		{shape(nil), shape(nil), shape(nil)},
		{shape([]int{0}), shape([]int{1}), shape([]int{0})},
		{shape([]int{1}), shape([]int{2}), shape([]int{0})},
		{shape([]int{1, 11}), shape([]int{10, 12}), shape([]int{0, 8})},
		{shape([]int{3}, 2), shape([]int{4}, 11), shape([]int{8}, 11)},
		{shape(nil, 3, 11, 1, 12), shape(nil, 4, 10, 1, 9), shape(nil, 8, 10, 1, 9)},
		{shape(nil, 3, 11, 1, 12), shape(nil, 4, 10, 2, 9), {}},
		{shape([]int{1}, 1), shape([]int{1}, 2), {}},
		{shape(nil, 1), shape(nil, 8), {}},
		{shape(nil, 8, 1), shape(nil, 1, 1), {}},
		{shape([]int{1}), shape([]int{1, 1}), {}},
		{shape([]int{1}), shape(nil, 1), {}},
		{shape(nil), shape(nil, 1), {}},
		{shape(nil, 1), shape(nil, 1, 1), {}},
		{shape([]int{1, 2, 3, 4, 8}), shape([]int{1, 3, 4, 2, 1}), shape([]int{1, 3, 8, 4, 0})},
	} {
		mustShapesJoin(t, cs, c[0], c[1], c[2])
	}
}

// P17, P18: what is not ok, or not Any, is in none, not even in itself, and none in it.
func TestWrongShapes(t *testing.T) {
	for _, cs := range [][]impl.Class{twoClasses(), knownClasses()} {
		for _, a := range wrongShapes(cs) {
			mustShapeIn(t, cs, a, a, false)
			mustShapesJoin(t, cs, a, a, impl.Shape{})
			for _, b := range slices.Concat(wrongShapes(cs), fewShapes(twoClasses())) {
				mustShapeIn(t, cs, a, b, false)
				mustShapeIn(t, cs, b, a, false)
				mustShapesJoin(t, cs, a, b, impl.Shape{})
			}
			for _, like := range []int{0, 1, 2, 3} {
				b := impl.Shape{Any: true, Locals: slices.Repeat([]int{like}, len(a.Locals)), Stack: slices.Repeat([]int{like}, len(a.Stack))}
				mustShapeIn(t, cs, a, b, false)
				mustShapeIn(t, cs, b, a, false)
				mustShapesJoin(t, cs, a, b, impl.Shape{})
			}
		}
	}
}

// P17, P18.
func TestNoShapesInClassesThatAreNotOk(t *testing.T) {
	for _, cs := range spoiltClasses() {
		for _, s := range []impl.Shape{{}, shape(nil), shape([]int{0}), shape([]int{1}, 1), shape([]int{8}, 9, 2), shape([]int{8, 9, 10, 11, 12, 13})} {
			mustShapeIn(t, cs, s, s, false)
			mustShapesJoin(t, cs, s, s, impl.Shape{})
		}
	}
}
