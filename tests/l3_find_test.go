package tests

import (
	"slices"
	"testing"

	"loop.example/entail/impl"
)

// spot is whose a method is, and how it is called.
type spot struct {
	class int
	sel   int
}

// everySpots is all ways in which so many methods can stand, the first ones at spots ahead of, or at, those of the others.
func everySpots(classes int, count int) [][]spot {
	if count == 0 {
		return [][]spot{nil}
	}
	var all [][]spot
	for _, ahead := range everySpots(classes, count-1) {
		for class := 1; class < classes; class++ {
			for sel := range impl.SelMax {
				if len(ahead) > 0 {
					if last := ahead[len(ahead)-1]; class < last.class || class == last.class && sel < last.sel {
						continue
					}
				}
				all = append(all, append(slices.Clone(ahead), spot{class, sel}))
			}
		}
	}
	return all
}

// eachPlacing goes by units of all trees, with up to MethodMax methods at all spots, the way down or the way up; they may share a spot, and be not ok.
func eachPlacing(visit func(u impl.Unit)) {
	for count := 2; count <= impl.ClassMax; count++ {
		for _, cs := range everyTree(count, count) {
			for methods := range impl.MethodMax {
				for turn, spots := range everySpots(count, methods) {
					if turn%2 == 1 {
						slices.Reverse(spots)
					}
					u := unitOf(cs)
					for _, s := range spots {
						u.Methods = append(u.Methods, plainMethod(s.class, s.sel))
					}
					visit(u)
				}
			}
		}
	}
}

func spotsDiffer(u impl.Unit) bool {
	seen := map[spot]bool{}
	for _, m := range u.Methods[1:] {
		s := spot{m.Class, m.Sel}
		if seen[s] {
			return false
		}
		seen[s] = true
	}
	return true
}

// Two methods of one class and Sel: such a unit is not ok, whatever else they are.
func TestNoTwoMethodsOfOneClassAndSel(t *testing.T) {
	eachPlacing(func(u impl.Unit) {
		if impl.UnitOk(u) != spotsDiffer(u) {
			t.Fatalf("UnitOk(%v) is not %v", u, spotsDiffer(u))
		}
	})
	for _, args := range [][]int{nil, {impl.TypeInt}, {impl.TypeInts, impl.TypeRefs}} {
		for _, out := range []int{impl.TypeInt, impl.TypeClass + 2} {
			u := unitOf(knownClasses(), plainMethod(3, 1), withOut(plainMethod(3, 1, args...), out))
			mustUnit(t, "two of one class and Sel", u, false)
			u.Methods[2].Sel = 2
			mustUnit(t, "two of one class", u, true)
		}
	}
}

// Methods that are nobody's have one Sel all, and are as they want.
func TestMethodsThatAreNobodysNeedNotAgree(t *testing.T) {
	u := unitOf(knownClasses(), plainMethod(-1, 0, impl.TypeInt), withOut(plainMethod(-1, 0, impl.TypeRefs, impl.TypeInt), impl.TypeClass+3), plainMethod(4, 0, impl.TypeInts))
	mustUnit(t, "nobody's", u, true)
	for class := range u.Classes {
		want := -1
		if class == 4 {
			want = 3
		}
		if m := impl.UnitFind(u, class, 0); m != want {
			t.Errorf("UnitFind of %d is %d, not %d", class, m, want)
		}
	}
}

// signatures differ in how many are given, in their types, also by a type that is in the other, in their order, and in what is given back.
func signatures() []impl.Method {
	var all []impl.Method
	n := impl.TypeClass
	for _, args := range [][]int{nil, {1}, {n + 2}, {n + 3}, {1, 3}, {3, 1}} {
		for _, out := range []int{1, n + 2, n + 3} {
			all = append(all, impl.Method{Args: args, Out: out})
		}
	}
	return all
}

func methodAt(s spot, like impl.Method) impl.Method {
	return withOut(plainMethod(s.class, s.sel, like.Args...), like.Out)
}

// P14: of a class and one above, however far, methods of one Sel are given, and give back, the same; all others are as they want.
func TestMethodsOfOneSelAgree(t *testing.T) {
	for _, cs := range everyTree(impl.ClassMax, 0) {
		up := upByHand(cs)
		for _, spots := range everySpots(len(cs), 2) {
			related := spots[0].sel == spots[1].sel && (up[spots[0].class][spots[1].class] || up[spots[1].class][spots[0].class])
			for i, first := range signatures() {
				for k, second := range signatures() {
					if spots[0].sel != spots[1].sel && i+k > 4 {
						continue
					}
					ok := spots[0] != spots[1] && (!related || i == k)
					a, b := methodAt(spots[0], first), methodAt(spots[1], second)
					if impl.UnitOk(unitOf(cs, a, b)) != ok || impl.UnitOk(unitOf(cs, b, a)) != ok {
						t.Fatalf("%v and %v in %v: not %v", a, b, cs, ok)
					}
				}
			}
		}
	}
}

// No args and the empty list of args are the same.
func TestNoArgsAreTheSame(t *testing.T) {
	a, b := plainMethod(2, 0), plainMethod(3, 0)
	a.Args, b.Args = nil, []int{}
	mustUnit(t, "no args", unitOf(knownClasses(), a, b), true)
}

// P13.
func TestKnownFinds(t *testing.T) {
	u := unitOf(knownClasses(), plainMethod(3, 2), plainMethod(2, 2), plainMethod(1, 0))
	for _, c := range [][3]int{
		{0, 0, -1}, {0, 1, -1}, {0, 2, -1}, {1, 0, 3}, {1, 1, -1}, {1, 2, -1}, {2, 0, -1}, {2, 2, 2}, {3, 0, -1}, {3, 2, 1}, {4, 0, 3}, {4, 2, -1},
	} {
		if m := impl.UnitFind(u, c[0], c[1]); m != c[2] {
			t.Errorf("UnitFind of %d and %d is %d, not %d", c[0], c[1], m, c[2])
		}
	}
	u = fullUnit()
	if impl.UnitFind(u, 2, 2) != 1 || impl.UnitFind(u, 3, 2) != 2 || impl.UnitFind(u, 4, 0) != 3 || impl.UnitFind(u, 4, 2) != -1 {
		t.Error("finds of the full unit")
	}
}

// P13.
func TestFindIsOwnOrTheOneAbove(t *testing.T) {
	eachPlacing(func(u impl.Unit) {
		if !impl.UnitOk(u) {
			return
		}
		up := upByHand(u.Classes)
		for class := range u.Classes {
			for sel := range impl.SelMax {
				own := slices.IndexFunc(u.Methods, func(m impl.Method) bool { return m.Class == class && m.Sel == sel })
				if own == -1 && class != impl.ClassRoot {
					own = impl.UnitFind(u, u.Classes[class].Super, sel)
				}
				if m := impl.UnitFind(u, class, sel); m != own || m != findByHand(u, up, class, sel) {
					t.Fatalf("UnitFind(%v, %d, %d) is %d, not %d", u, class, sel, m, own)
				}
			}
		}
	})
}

// P14.
func TestEachClassBelowAnswersAlike(t *testing.T) {
	for _, like := range []impl.Method{{Out: impl.TypeInt}, {Args: []int{impl.TypeRefs}, Out: impl.TypeClass + 1}, {Args: []int{impl.TypeClass, impl.TypeInt}, Out: impl.TypeInts}} {
		answers := 0
		for _, cs := range everyTree(impl.ClassMax, 3) {
			for _, spots := range everySpots(len(cs), 2) {
				u := unitOf(cs, methodAt(spots[0], like), methodAt(spots[1], like))
				if impl.UnitOk(u) {
					answers += mustAnswerAlike(t, u)
				}
			}
		}
		if answers == 0 {
			t.Error("none answers")
		}
	}
}

func mustAnswerAlike(t *testing.T, u impl.Unit) int {
	t.Helper()
	answers := 0
	for above := range u.Classes {
		for below := range u.Classes {
			for sel := range impl.SelMax {
				first := impl.UnitFind(u, above, sel)
				if first == -1 || !impl.ClassUp(u.Classes, below, above) {
					continue
				}
				answers++
				second := impl.UnitFind(u, below, sel)
				if second == -1 || u.Methods[first].Out != u.Methods[second].Out || !slices.Equal(u.Methods[first].Args, u.Methods[second].Args) {
					t.Fatalf("%d answers %d with %d, %d below with %d in %v", above, sel, first, below, second, u)
				}
			}
		}
	}
	return answers
}

// P13: no such class, or Sel, is -1, also where a method's Class, or Sel, is that number.
func TestNoSuchFind(t *testing.T) {
	for _, u := range someUnits() {
		up := upByHand(u.Classes)
		for _, class := range append(allInts(), noClasses(u.Classes)...) {
			for _, sel := range allInts() {
				if m := impl.UnitFind(u, class, sel); m != findByHand(u, up, class, sel) {
					t.Fatalf("UnitFind(%v, %d, %d) is %d", u, class, sel, m)
				}
			}
		}
		for sel := range impl.SelMax {
			if impl.UnitFind(u, -1, sel) != -1 || impl.UnitFind(u, impl.ClassRoot, sel) != -1 {
				t.Fatalf("nobody, or the root, answers %d in %v", sel, u)
			}
		}
	}
}

// P13, P16: a unit that is not ok answers nothing, whatever is not ok in it.
func TestNoFindInUnitsThatAreNotOk(t *testing.T) {
	good := unitOf(knownClasses(), plainMethod(2, 0))
	if impl.UnitFind(good, 3, 0) != 1 {
		t.Fatal("3 has nothing from 2")
	}
	for _, spoil := range []func(u *impl.Unit){
		func(u *impl.Unit) { u.Classes = nil },
		func(u *impl.Unit) { u.Classes[0].Super = 2 },
		func(u *impl.Unit) { u.Classes[2].Super = 3 },
		func(u *impl.Unit) { u.Methods = u.Methods[1:] },
		func(u *impl.Unit) { u.Methods = nil },
		func(u *impl.Unit) { u.Methods[0].Out = impl.TypeNull },
		func(u *impl.Unit) { u.Methods[1].Locals = 0 },
		func(u *impl.Unit) { u.Methods[1].Code = nil },
		func(u *impl.Unit) { u.Methods[1].Shapes = nil },
		func(u *impl.Unit) { u.Methods = append(u.Methods, plainMethod(2, 0)) },
		func(u *impl.Unit) { u.Methods = append(u.Methods, plainMethod(3, 0, impl.TypeInt)) },
		func(u *impl.Unit) { u.Methods = append(u.Methods, plainMethod(0, 0)) },
	} {
		u := copyUnit(good)
		spoil(&u)
		for _, class := range allInts() {
			for sel := -1; sel <= impl.SelMax; sel++ {
				if m := impl.UnitFind(u, class, sel); m != -1 {
					t.Fatalf("UnitFind(%v, %d, %d) is %d", u, class, sel, m)
				}
			}
		}
	}
}
