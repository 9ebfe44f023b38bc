package tests

import (
	"math"
	"reflect"
	"slices"
	"testing"

	"loop.example/entail/impl"
)

func spareShape(s impl.Shape) impl.Shape {
	return impl.Shape{Any: s.Any, Locals: spare(s.Locals, spareMark), Stack: spare(s.Stack, spareMark)}
}

// wholeShape is a copy of all that is in the memory of a shape, also behind the ends of its lists.
func wholeShape(s impl.Shape) impl.Shape {
	return copyOfShape(impl.Shape{Any: s.Any, Locals: s.Locals[:cap(s.Locals)], Stack: s.Stack[:cap(s.Stack)]})
}

// answer is all shapes that one call gives back.
type answer []impl.Shape

// answersOf are those of all calls of the chapter with the unit and the shapes, one answer each.
func answersOf(u impl.Unit, shapes []impl.Shape) []answer {
	var all []answer
	for _, a := range shapes {
		for _, b := range shapes {
			impl.ShapeIn(u.Classes, a, b)
			all = append(all, answer{impl.ShapeJoin(u.Classes, a, b)})
		}
	}
	for m := -1; m <= len(u.Methods); m++ {
		told, _ := impl.PassShapes(u, m)
		all = append(all, answer{impl.ShapeStart(u, m)}, told, impl.PassInfer(u, m))
		for at := -1; m >= 0 && m < len(u.Methods) && at <= len(u.Methods[m].Code); at++ {
			for _, s := range shapes {
				behind, _ := impl.PassStep(u, m, at, s)
				all = append(all, answer{behind})
			}
		}
	}
	impl.UnitPass(u)
	return all
}

// listsOf are the lists of an answer, with their spare room.
func listsOf(a answer) [][]int {
	var all [][]int
	for _, s := range a {
		all = append(all, s.Locals[:cap(s.Locals)], s.Stack[:cap(s.Stack)])
	}
	return all
}

func copyAnswers(all []answer) []answer {
	var out []answer
	for _, a := range all {
		var copied answer
		for _, s := range a {
			copied = append(copied, copyOfShape(s))
		}
		out = append(out, copied)
	}
	return out
}

// unitsAndShapes are units that are ok, passed and not, and some that are not ok, each with shapes that its methods have, and wrong ones.
func unitsAndShapes() ([]impl.Unit, [][]impl.Shape) {
	units := slices.Concat(someUnits(), grownUnits(17, 30), unitsThatAreNotOk()[len(unitsThatAreNotOk())-20:])
	var shapes [][]impl.Shape
	for _, u := range units {
		list := []impl.Shape{{}, shape(nil), shape([]int{0}, 1), shape([]int{1, 1}), shape(nil, 1, 1, 1, 1, 1), shape([]int{8, 8, 8}, 0), {Locals: []int{1}}}
		for m := range u.Methods {
			told, _ := impl.PassShapes(u, m)
			list = append(list, told[:min(4, len(told))]...)
		}
		shapes = append(shapes, list)
	}
	return units, shapes
}

// Nothing is written into an argument, or behind its end.
func TestPassLeavesArgumentsAsTheyAre(t *testing.T) {
	units, lists := unitsAndShapes()
	for i := range units {
		u := spareUnit(units[i])
		var shapes, wasShapes []impl.Shape
		for _, s := range lists[i] {
			shapes = append(shapes, spareShape(s))
			wasShapes = append(wasShapes, wholeShape(spareShape(s)))
		}
		was := wholeUnit(u)
		answersOf(u, shapes)
		if now := wholeUnit(u); !reflect.DeepEqual(now, was) {
			t.Fatalf("%v is %v now", was, now)
		}
		for k, s := range shapes {
			if now := wholeShape(s); !reflect.DeepEqual(now, wasShapes[k]) {
				t.Fatalf("%v is %v now", wasShapes[k], now)
			}
		}
	}
}

// Each list of an answer is memory of its own, spare room included: writing into all of them changes no argument, no other list, and no other answer.
func TestPassAnswersAreNewMemory(t *testing.T) {
	units, lists := unitsAndShapes()
	for i := range units {
		u := spareUnit(units[i])
		var shapes []impl.Shape
		for _, s := range lists[i] {
			shapes = append(shapes, spareShape(s))
		}
		was := wholeUnit(u)
		answers := answersOf(u, shapes)
		first := copyAnswers(answers)
		for _, a := range answers {
			mustBeApart(t, a)
		}
		if now := wholeUnit(u); !reflect.DeepEqual(now, was) {
			t.Fatalf("%v is %v now", was, now)
		}
		if again := copyAnswers(answersOf(u, shapes)); !reflect.DeepEqual(again, first) {
			t.Fatalf("answers of %v are others when called again", u)
		}
	}
}

// mustBeApart writes a mark of its own into each list, and finds it there behind all others.
func mustBeApart(t *testing.T, a answer) {
	t.Helper()
	lists := listsOf(a)
	for mark, list := range lists {
		for i := range list {
			list[i] = spareMark + mark
		}
	}
	for mark, list := range lists {
		for _, n := range list {
			if n != spareMark+mark {
				t.Fatalf("two lists of %v share memory", a)
			}
		}
	}
}

// Every function answers at every argument: each number of a unit as far as an int can be.
func TestPassOfUnitsWithOneNumberChanged(t *testing.T) {
	for _, u := range someUnits() {
		shapes := []impl.Shape{{}, shape(nil), shape([]int{0}, 1), shape([]int{1, 1, 1}, 1, 8, 9, 2)}
		for _, n := range ints(u) {
			was := *n
			for _, *n = range []int{math.MinInt, -1, 0, 1, 2, 4, 12, math.MaxInt} {
				answers := answersOf(u, shapes)
				if impl.UnitOk(u) {
					continue
				}
				for _, a := range answers[len(shapes)*len(shapes):] {
					if slices.ContainsFunc(a, func(s impl.Shape) bool { return !isNothing(s) }) {
						t.Fatalf("%v is not ok, but something is told: %v", u, a)
					}
				}
			}
			*n = was
		}
	}
}
