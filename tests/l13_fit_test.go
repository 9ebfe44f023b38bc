package tests

import (
	"slices"
	"testing"

	"loop.example/entail/impl"
)

// oneOfEach are things behind the first ones, one of each sort: 8 and 9 are arrays, then one of each class.
func oneOfEach(cs []impl.Class) []impl.Obj {
	all := things(thing(impl.ClassInts), thing(impl.ClassRefs))
	for class := range cs {
		o := thing(class)
		for _, t := range fieldsOf(cs, class) {
			v := ref(0)
			if t == impl.TypeInt {
				v = word(0)
			}
			o.Vals = append(o.Vals, v)
		}
		all = append(all, o)
	}
	return all
}

// valueOfType is, among oneOfEach, a value of just that type.
func valueOfType(t int) impl.Val {
	switch t {
	case impl.TypeInt:
		return word(1)
	case impl.TypeNull:
		return ref(0)
	case impl.TypeInts, impl.TypeRefs:
		return ref(8 + t - impl.TypeInts)
	}
	return ref(10 + t - impl.TypeClass)
}

// eachTwoTypes visits each type of a value, each one of a place, and whether the value may be there.
func eachTwoTypes(cs []impl.Class, visit func(has int, wants int, may bool)) {
	in := inByHand(cs)
	for _, has := range allTypes(cs)[1:] {
		for _, wants := range allTypes(cs) {
			visit(has, wants, in[has][wants])
		}
	}
}

// toldUnit has a place to which one never comes, and where that is told of a local, and of the stack.
func toldUnit(cs []impl.Class, local int, stack ...int) impl.Unit {
	code := append([]impl.Ins{ins(impl.InsPush), ins(impl.InsBack)}, slices.Repeat([]impl.Ins{ins(impl.InsPop)}, len(stack))...)
	u := oneMethod(1, append(code, ins(impl.InsPush), ins(impl.InsBack))...)
	u.Classes = cs
	return tell(u, 2, shape([]int{local}, stack...))
}

func someTrees() [][]impl.Class {
	return [][]impl.Class{knownClasses(), twoClasses(), everyTree(4, 1)[3], everyTree(5, 2)[11]}
}

func TestLocalsOfEachType(t *testing.T) {
	for _, cs := range someTrees() {
		eachTwoTypes(cs, func(has int, wants int, may bool) {
			u := toldUnit(cs, wants)
			m := machOf(oneOfEach(cs), frame(0, 2, vals(valueOfType(has))))
			mustMach(t, "a local", u, m, true, may)
		})
	}
}

func TestStacksOfEachType(t *testing.T) {
	for _, cs := range someTrees() {
		eachTwoTypes(cs, func(has int, wants int, may bool) {
			if wants == impl.TypeNone {
				return
			}
			v := valueOfType(has)
			mustMach(t, "on the stack", toldUnit(cs, impl.TypeNone, wants), machOf(oneOfEach(cs), frame(0, 2, vals(v), v)), true, may)
			mustMach(t, "at the bottom", toldUnit(cs, impl.TypeNone, wants, impl.TypeNull), machOf(oneOfEach(cs), frame(0, 2, vals(v), v, ref(0))), true, may)
			mustMach(t, "on top", toldUnit(cs, impl.TypeNone, impl.TypeNull, wants), machOf(oneOfEach(cs), frame(0, 2, vals(v), ref(0), v)), true, may)
		})
	}
}

// mustMachIn is of a thing behind oneOfEach, to which nothing leads.
func mustMachIn(t *testing.T, cs []impl.Class, o impl.Obj, fits bool) {
	t.Helper()
	u := unitOf(cs)
	mustMach(t, "in a thing", u, machOf(append(oneOfEach(cs), o), newByHand(u).Frames...), true, fits)
}

func TestFieldsOfEachType(t *testing.T) {
	for _, super := range []int{0, 1} {
		for _, wants := range append([]int{1, 3, 4}, 8, 9, 10, 11) {
			cs := withClass(withClass(twoClasses(), super, []int{wants}), 2, []int{wants, impl.TypeInt})
			eachTwoTypes(cs, func(has int, other int, may bool) {
				if other != wants {
					return
				}
				fine, v := valueOfType(wants), valueOfType(has)
				above := slices.Repeat(vals(word(0)), super)
				mustMachIn(t, cs, thing(2, append(above, v)...), may)
				mustMachIn(t, cs, thing(3, append(above, v, fine, word(0))...), may)
				mustMachIn(t, cs, thing(3, append(above, fine, v, word(0))...), may)
			})
		}
	}
}

func TestArraysOfEachType(t *testing.T) {
	for _, cs := range someTrees() {
		for _, has := range allTypes(cs)[1:] {
			v := valueOfType(has)
			mustMachIn(t, cs, thing(impl.ClassInts, v), has == impl.TypeInt)
			mustMachIn(t, cs, thing(impl.ClassRefs, v), has != impl.TypeInt)
			for at := range impl.ArrayMax {
				list := make([]impl.Val, impl.ArrayMax)
				list[at] = v
				mustMachIn(t, cs, thing(impl.ClassInts, list...), has == impl.TypeInt)
				list = slices.Repeat(refs(0), impl.ArrayMax)
				list[at] = v
				mustMachIn(t, cs, thing(impl.ClassRefs, list...), has != impl.TypeInt)
			}
		}
	}
}

func TestWhatWasThrownOfEachType(t *testing.T) {
	for _, cs := range someTrees() {
		in := inByHand(cs)
		for _, has := range allTypes(cs)[1:] {
			m := machOf(oneOfEach(cs))
			m.Out = valueOfType(has)
			m.End = impl.EndDone
			mustMach(t, "given back", unitOf(cs), m, true, has == impl.TypeInt)
			m.End = impl.EndThrown
			leads := has > impl.TypeNull
			mustMach(t, "thrown", unitOf(cs), m, leads, leads && in[has][9])
		}
	}
}

func TestLocalsOfNoType(t *testing.T) {
	u := oneMethod(3, ins(impl.InsPush, 1), ins(impl.InsStore, 1), ins(impl.InsPush, 1), ins(impl.InsBack))
	all := slices.Concat(vals(word(0), word(impl.IntLow), word(impl.IntHigh)), refs(0, 1, 7, 8))
	for _, a := range all {
		for _, b := range all {
			for _, c := range all {
				mustFit(t, "no type", u, machOf(things(thing(0)), frame(0, 0, vals(a, b, c))))
				m := machOf(things(thing(0)), frame(0, 2, vals(a, b, c)))
				mustMach(t, "one has a type", u, m, true, !b.Ref)
			}
		}
	}
	for at := range 3 {
		for _, wrong := range vals(word(impl.IntHigh+1), word(impl.IntLow-1), ref(9), ref(-1)) {
			m := machOf(things(thing(0)), frame(0, 0, make([]impl.Val, 3)))
			m.Frames[0].Locals[at] = wrong
			mustNotBeOk(t, "no type, and no value", u, m)
		}
	}
}

// Where one never comes the shape is the one that is told.
func TestPlacesWhereOneNeverComes(t *testing.T) {
	u := toldUnit(knownClasses(), impl.TypeRefs, impl.TypeClass+2, impl.TypeInt)
	more := things(thing(impl.ClassRefs), thing(3, ref(0), ref(9), ref(8)), thing(2, ref(0), ref(9)))
	mustFit(t, "as told", u, machOf(more, frame(0, 2, refs(8), ref(9), word(1))))
	mustFit(t, "as told", u, machOf(more, frame(0, 2, refs(0), ref(0), word(1))))
	mustFit(t, "one on", u, machOf(more, frame(0, 3, refs(8), ref(9))))
	mustBeOk(t, "not as told", u, machOf(more, frame(0, 2, refs(9), ref(9), word(1))))
	mustBeOk(t, "not as told", u, machOf(more, frame(0, 2, refs(8), ref(8), word(1))))
	mustBeOk(t, "not as told", u, machOf(more, frame(0, 2, refs(8), word(1), ref(9))))
	mustBeOk(t, "a word less", u, machOf(more, frame(0, 2, refs(8), ref(9))))
	mustBeOk(t, "as at the beginning", u, machOf(more, frame(0, 2, vals(word(0)))))
	circle := things(thing(3, ref(0), ref(8), ref(0)))
	mustFit(t, "a thing that leads to itself", u, machOf(circle, frame(0, 2, refs(0), ref(8), word(1))))
	u.Methods[0].Shapes[2] = impl.Shape{}
	mustBeOk(t, "not told", u, machOf(more, frame(0, 2, refs(8), ref(9), word(1))))
}

func TestUnitsThatAreNotPassed(t *testing.T) {
	for i := range 4 {
		for _, m := range []impl.Mach{newByHand(callUnit()), chain(3), {Objs: firstThings(), End: impl.EndDone}, {Objs: firstThings(), End: impl.EndThrown, Out: ref(1)}} {
			u := callUnit()
			mustFit(t, "passed", u, m)
			u.Methods[i].Code = append(u.Methods[i].Code, ins(impl.InsPush))
			u.Methods[i].Shapes = append(u.Methods[i].Shapes, impl.Shape{})
			mustBeOk(t, "a method is not passed", u, m)
		}
	}
}

func TestStuckMachinesDoNotFit(t *testing.T) {
	eachMach(2, 100, 10, func(h machHand, m impl.Mach) {
		if m.End != impl.EndNot {
			return
		}
		mustFit(t, "it runs", h.u, m)
		m.End = impl.EndStuck
		mustBeOk(t, "stuck", h.u, m)
	})
}

// waiting is a call of method 0 of callUnit at a place, a call of another one being above.
func waiting(at int, above int, stack ...impl.Val) impl.Mach {
	call := newByHand(callUnit()).Frames[0]
	call.At, call.Stack = at, stack
	locals := [][]impl.Val{make([]impl.Val, 2), vals(ref(0), word(1), word(0)), vals(word(1)), nil}
	return machOf(nil, call, frame(above, 0, locals[above]))
}

// At 3 class 2's is waited for, at 6 class 3's; methods 1 and 2 give back these, 0 and 3 a word.
func TestCallsThatWait(t *testing.T) {
	u := callUnit()
	mustFit(t, "for what was sent", u, waiting(3, 1, word(5)))
	mustFit(t, "for another that gives back what is in it", u, waiting(3, 2, word(5)))
	mustFit(t, "for what was called", u, waiting(6, 2, word(5)))
	mustBeOk(t, "for another that gives back what is not in it", u, waiting(6, 1, word(5)))
	for _, above := range []int{0, 3} {
		mustBeOk(t, "for a word", u, waiting(3, above, word(5)))
		mustBeOk(t, "for a word", u, waiting(6, above, word(5)))
	}
	mustBeOk(t, "what is left is not of its type", u, waiting(3, 1, ref(0)))
	mustBeOk(t, "what is left is not of its type", u, waiting(6, 2, ref(0)))
}

func TestHowMuchIsOnTheStackOfOneThatWaits(t *testing.T) {
	u := callUnit()
	for _, c := range []struct {
		at    int
		above int
		told  []impl.Val
	}{{3, 1, vals(word(5), ref(0), word(7))}, {6, 2, vals(word(5), word(5))}} {
		for count := range len(c.told) + 1 {
			mustMach(t, "as large but for what is given", u, waiting(c.at, c.above, c.told[:count]...), true, count == 1)
		}
		alone := waiting(c.at, c.above, c.told...)
		alone.Frames = alone.Frames[:1]
		mustFit(t, "ahead of the call", u, alone)
		alone.Frames[0].Stack = c.told[:1]
		mustBeOk(t, "with nothing to wait for", u, alone)
	}
}

// At all other instructions nothing is waited for, however much is on the stack.
func TestCallsThatDoNotWait(t *testing.T) {
	u := callUnit()
	told := [][]impl.Val{nil, vals(word(5)), vals(word(5), ref(0)), vals(word(5), ref(0), word(7)), vals(word(5), ref(0)), vals(word(5)), vals(word(5), word(5)), vals(word(5), ref(0)), vals(word(5))}
	for at, list := range told {
		alone := waiting(at, 1, list...)
		alone.Frames = alone.Frames[:1]
		mustFit(t, "alone", u, alone)
		for count := range len(list) + 1 {
			for above := range 4 {
				calls := count == 1 && (at == 3 && (above == 1 || above == 2) || at == 6 && above == 2)
				mustMach(t, "below another", u, waiting(at, above, list[:count]...), true, calls)
			}
		}
	}
	mustBeOk(t, "behind its code", u, waiting(9, 1, word(5)))
}

// What is sent to a class is waited for as the method of the nearest class above tells it.
func TestCallsThatWaitForWhatIsAbove(t *testing.T) {
	answer := withOut(withCode(plainMethod(2, 0, impl.TypeInt, impl.TypeRefs), ins(impl.InsLoad, 2), ins(impl.InsBack)), impl.TypeRefs)
	below := withOut(withCode(plainMethod(3, 0, impl.TypeInt, impl.TypeRefs), ins(impl.InsNull), ins(impl.InsBack)), impl.TypeRefs)
	u := unitOf(knownClasses(), answer, below)
	u.Methods[0] = withCode(u.Methods[0], ins(impl.InsPush), ins(impl.InsNew, 3), ins(impl.InsPush), ins(impl.InsNull), ins(impl.InsSend, 3, 0), ins(impl.InsLen), ins(impl.InsPop), ins(impl.InsBack))
	for count := range 5 {
		for above := 1; above <= 2; above++ {
			list := vals(word(0), ref(0), word(0), ref(0))[:count]
			m := machOf(nil, frame(0, 4, nil, list...), frame(above, 0, vals(ref(0), word(0), ref(0))))
			mustMach(t, "sent", u, m, true, count == 1)
		}
	}
	full := machOf(nil, frame(0, 4, nil, word(0), ref(0), word(0), ref(0)))
	mustFit(t, "ahead of it", u, full)
}

// Each call of several must wait, and each be of the shape of its place.
func TestEachCallOfSeveral(t *testing.T) {
	u := callUnit()
	for count := 2; count <= impl.FrameMax; count++ {
		for i := range count - 1 {
			m := chain(count)
			m.Frames[i].Stack = nil
			mustBeOk(t, "one with nothing left", u, m)
			m.Frames[i].Stack = vals(word(1), word(2))
			mustBeOk(t, "one with a word more", u, m)
			m.Frames[i].Stack = refs(0)
			mustBeOk(t, "one with what is no word", u, m)
			m.Frames[i] = frame(3, 2, nil, word(1), word(2))
			mustBeOk(t, "one that does not wait", u, m)
			m.Frames[i] = frame(3, 0, nil)
			mustBeOk(t, "one at its beginning", u, m)
		}
		m := chain(count)
		m.Frames[count-1] = frame(3, 1, nil, word(9))
		mustFit(t, "the last is ahead of a call", u, m)
		m.Frames[count-1] = frame(3, 3, nil, word(9))
		mustFit(t, "the last gives back", u, m)
		m.Frames[count-1] = frame(2, 0, vals(word(1)))
		mustBeOk(t, "the last does not give back a word", u, m)
	}
}

// numbersOf are where all numbers of a machine stand.
func numbersOf(m *impl.Mach) []*int {
	all := []*int{&m.Steps, &m.End, &m.Out.N}
	for i := range m.Said {
		all = append(all, &m.Said[i])
	}
	for i := range m.Objs {
		all = append(all, &m.Objs[i].Class)
	}
	for i := range m.Frames {
		all = append(all, &m.Frames[i].Method, &m.Frames[i].At)
	}
	for _, v := range machValues(m) {
		all = append(all, &v.N)
	}
	return all
}

// machValues are where all values of a machine stand, but Out.
func machValues(m *impl.Mach) []*impl.Val {
	all := valuesOf(heap{objs: m.Objs})
	for _, f := range m.Frames {
		all = append(all, valuesOf(heap{roots: f.Locals})...)
		all = append(all, valuesOf(heap{roots: f.Stack})...)
	}
	return all
}

// mustMachAsByHand is P39, too: how large the last stack is, and that no call is behind its code.
func mustMachAsByHand(t *testing.T, h machHand, m impl.Mach) bool {
	t.Helper()
	fits := h.machFits(m)
	mustMach(t, "by hand", h.u, m, h.machOk(m), fits)
	if !fits || len(m.Frames) == 0 {
		return fits
	}
	for _, f := range m.Frames {
		if f.At >= len(h.u.Methods[f.Method].Code) {
			t.Fatalf("%v fits, but a call is behind its code", m)
		}
	}
	last := m.Frames[len(m.Frames)-1]
	shapes, _ := impl.PassShapes(h.u, last.Method)
	if len(last.Stack) != len(shapes[last.At].Stack) {
		t.Fatalf("%v fits, but its last stack is not as large as %v", m, shapes[last.At])
	}
	return true
}

// P39: machines that fit, and these with one number changed, near and far.
func TestMachinesWithOneNumberChanged(t *testing.T) {
	fits, not := 0, 0
	eachMach(3, 80, 3, func(h machHand, m impl.Mach) {
		mustMachAsByHand(t, h, m)
		for _, n := range numbersOf(&m) {
			was := *n
			for _, *n = range append(farInts(), -130, -129, -128, -3, -2, -1, 0, 1, 2, 3, 4, 5, 7, 8, 9, 12, 127, 128, 200, 201) {
				if mustMachAsByHand(t, h, m) {
					fits++
				} else {
					not++
				}
			}
			*n = was
		}
	})
	if fits < 1000 || not < 1000 {
		t.Error("too few of either", fits, not)
	}
}

// P39: machines with one value that is of the other sort.
func TestMachinesWithOneValueChanged(t *testing.T) {
	eachMach(4, 200, 5, func(h machHand, m impl.Mach) {
		for _, v := range append(machValues(&m), &m.Out) {
			was := *v
			for _, *v = range slices.Concat(vals(word(0), word(1), word(128)), refs(-1, 0, 1, len(m.Objs), len(m.Objs)+1)) {
				mustMachAsByHand(t, h, m)
			}
			*v = was
		}
	})
}

// tryMachSizes leaves the list as it was.
func tryMachSizes[T any](t *testing.T, h machHand, m *impl.Mach, list *[]T) {
	t.Helper()
	was := *list
	for _, *list = range otherSizes(was) {
		mustMachAsByHand(t, h, *m)
	}
	*list = was
}

// P39: machines with one list that is longer or shorter.
func TestMachinesWithOneListChanged(t *testing.T) {
	eachMach(5, 200, 5, func(h machHand, m impl.Mach) {
		tryMachSizes(t, h, &m, &m.Objs)
		tryMachSizes(t, h, &m, &m.Frames)
		tryMachSizes(t, h, &m, &m.Said)
		for i := range m.Objs {
			tryMachSizes(t, h, &m, &m.Objs[i].Vals)
		}
		for i := range m.Frames {
			tryMachSizes(t, h, &m, &m.Frames[i].Locals)
			tryMachSizes(t, h, &m, &m.Frames[i].Stack)
		}
	})
}

// P39: a machine of one unit in another one, passed or not.
func TestMachinesOfOtherUnits(t *testing.T) {
	units := slices.Concat(someUnits(), passedUnits(6, 40), grownUnits(7, 20))
	var hands []machHand
	for _, u := range units {
		hands = append(hands, machHandOf(u))
	}
	fits := 0
	eachMach(6, 40, 3, func(own machHand, m impl.Mach) {
		for _, h := range hands {
			if mustMachAsByHand(t, h, m) {
				fits++
			}
		}
	})
	if fits < 200 {
		t.Error("too few fit", fits)
	}
}

// P39: all calls of up to two frames at all places of callUnit, with all stacks of few values.
func TestSmallMachinesByHand(t *testing.T) {
	h := machHandOf(callUnit())
	more := things(thing(3, ref(0), ref(0), ref(0)))
	locals := [][]impl.Val{make([]impl.Val, 2), vals(ref(8), word(1), word(0)), vals(word(1)), nil}
	stacks := everyVals(vals(word(0), ref(8)), 3)
	fits := 0
	for method, caller := range h.u.Methods {
		for at := range len(caller.Code) + 1 {
			for _, stack := range stacks {
				m := machOf(more, frame(method, at, locals[method], stack...))
				if mustMachAsByHand(t, h, m) {
					fits++
				}
				for above, called := range h.u.Methods {
					for on := range called.Code {
						for _, top := range stacks[:7] {
							m.Frames = []impl.Frame{m.Frames[0], frame(above, on, locals[above], top...)}
							if mustMachAsByHand(t, h, m) {
								fits++
							}
						}
					}
				}
			}
		}
	}
	if fits < 30 {
		t.Error("too few fit", fits)
	}
}
