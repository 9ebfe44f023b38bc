package tests

import (
	"slices"
	"testing"

	"loop.example/entail/impl"
)

func mustMach(t *testing.T, what string, u impl.Unit, m impl.Mach, ok bool, fits bool) {
	t.Helper()
	if impl.MachOk(u, m) != ok {
		t.Fatalf("%s: MachOk of %v and %v is not %v", what, u, m, ok)
	}
	if impl.MachFits(u, m) != fits {
		t.Fatalf("%s: MachFits of %v and %v is not %v", what, u, m, fits)
	}
}

// mustFit is of a machine that is ok, too.
func mustFit(t *testing.T, what string, u impl.Unit, m impl.Mach) {
	t.Helper()
	mustMach(t, what, u, m, true, true)
}

// mustBeOk is of a machine that does not fit.
func mustBeOk(t *testing.T, what string, u impl.Unit, m impl.Mach) {
	t.Helper()
	mustMach(t, what, u, m, true, false)
}

func mustNotBeOk(t *testing.T, what string, u impl.Unit, m impl.Mach) {
	t.Helper()
	mustMach(t, what, u, m, false, false)
}

func TestNumbersOfMachines(t *testing.T) {
	if impl.ArrayMax != 6 || impl.FrameMax != 4 || impl.RunMax != 200 {
		t.Error("limits are others")
	}
	faults := []int{impl.FaultDiv, impl.FaultNull, impl.FaultPlace, impl.FaultSize, impl.FaultCast, impl.FaultDeep, impl.FaultRoom}
	if !slices.Equal(faults, []int{1, 2, 3, 4, 5, 6, 7}) {
		t.Error("what is thrown has other numbers", faults)
	}
	if ends := []int{impl.EndNot, impl.EndDone, impl.EndThrown, impl.EndStuck}; !slices.Equal(ends, []int{0, 1, 2, 3}) {
		t.Error("ends have other numbers", ends)
	}
}

// mustBegin is P38.
func mustBegin(t *testing.T, u impl.Unit, passed bool) {
	t.Helper()
	m := impl.MachNew(u)
	if !equalMachs(m, newByHand(u)) {
		t.Fatalf("MachNew of %v is %v", u, m)
	}
	mustMach(t, "at the beginning", u, m, true, passed)
}

// P38.
func TestKnownBeginnings(t *testing.T) {
	for locals := range impl.LocalMax + 1 {
		mustBegin(t, oneMethod(locals, ins(impl.InsPush, 1), ins(impl.InsBack)), true)
		mustBegin(t, oneMethod(locals, ins(impl.InsNull), ins(impl.InsBack)), false)
		mustBegin(t, oneMethod(locals, ins(impl.InsBack)), false)
		mustBegin(t, oneMethod(locals, ins(impl.InsGo)), false)
		mustBegin(t, tell(oneMethod(locals, ins(impl.InsGo)), 0, shape(make([]int, locals))), true)
	}
	mustBegin(t, tell(oneMethod(1, ins(impl.InsPush), ins(impl.InsBack)), 0, shape([]int{impl.TypeInt})), false)
	mustBegin(t, callUnit(), true)
	lastIsNot := callUnit()
	lastIsNot.Methods[3].Code[1] = ins(impl.InsPop)
	mustBegin(t, lastIsNot, false)
}

// P38.
func TestBeginnings(t *testing.T) {
	for _, u := range slices.Concat(someUnits(), grownUnits(18, 400)) {
		mustBegin(t, u, handOf(u).unitPass())
	}
	for _, cs := range everyClasses() {
		mustBegin(t, unitOf(cs), true)
	}
	eachSmall(2, func(u impl.Unit) {
		mustBegin(t, u, handOf(u).unitPass())
	})
}

// P38.
func TestNoBeginningsOfUnitsThatAreNotOk(t *testing.T) {
	for _, u := range unitsThatAreNotOk() {
		if m := impl.MachNew(u); !equalMachs(m, impl.Mach{}) {
			t.Fatalf("MachNew of %v is %v, not nothing", u, m)
		}
		mustNotBeOk(t, "the unit is not ok", u, impl.Mach{})
		mustNotBeOk(t, "the unit is not ok", u, newByHand(unitOf(twoClasses())))
		mustNotBeOk(t, "the unit is not ok", u, impl.Mach{Objs: firstThings(), End: impl.EndDone})
	}
}

func TestMachinesOfNothing(t *testing.T) {
	for _, u := range []impl.Unit{{}, callUnit(), fullUnit(), unitOf(twoClasses())} {
		mustNotBeOk(t, "nothing", u, impl.Mach{})
		mustNotBeOk(t, "empty lists", u, impl.Mach{Objs: []impl.Obj{}, Frames: []impl.Frame{}, Said: []int{}})
		for _, end := range allInts() {
			mustNotBeOk(t, "no things", u, impl.Mach{End: end})
			mustNotBeOk(t, "no things", u, impl.Mach{End: end, Out: ref(1)})
			mustNotBeOk(t, "a frame of nothing", u, impl.Mach{End: end, Frames: make([]impl.Frame, 1)})
		}
	}
}

func TestHowManySteps(t *testing.T) {
	u := callUnit()
	for _, steps := range append(allInts(), 100, 199, 200, 201) {
		m := newByHand(u)
		m.Steps = steps
		ok := 0 <= steps && steps <= impl.RunMax
		mustMach(t, "steps", u, m, ok, ok)
	}
}

func TestHowManyThings(t *testing.T) {
	u := callUnit()
	for count := range impl.FaultRoom + impl.RunMax + 3 {
		for _, more := range things(thing(1, word(0)), thing(0), thing(impl.ClassInts)) {
			m := newByHand(u)
			m.Objs = append(m.Objs, slices.Repeat(things(more), impl.RunMax+3)...)[:count]
			ok := impl.FaultRoom <= count && count <= impl.FaultRoom+impl.RunMax
			mustMach(t, "things", u, m, ok, ok)
		}
	}
}

// What is thrown is of that class alone, not of one below.
func TestFirstThings(t *testing.T) {
	u := callUnit()
	others := things(thing(0), thing(2, ref(0), ref(0)), thing(4, word(1), ref(0), word(0)), thing(impl.ClassInts, word(1)), thing(impl.ClassRefs, ref(0)))
	for _, other := range others {
		for i := range impl.FaultRoom + 2 {
			m := machOf(things(thing(1, word(0)), thing(1, word(0))), newByHand(u).Frames...)
			m.Objs[i] = other
			mustMach(t, "one of another class", u, m, i >= impl.FaultRoom, i >= impl.FaultRoom)
		}
	}
	m := newByHand(u)
	for i := range m.Objs {
		m.Objs[i] = thing(1, word(impl.IntLow))
	}
	mustFit(t, "the same word in all", u, m)
	m.Objs[6].Vals[0] = ref(3)
	mustBeOk(t, "one that leads", u, m)
}

// chain is so many calls, all but the last waiting for the next.
func chain(count int) impl.Mach {
	m := machOf(nil)
	for range count - 1 {
		m.Frames = append(m.Frames, frame(3, 1, nil, word(9)))
	}
	m.Frames = append(m.Frames, frame(3, 0, nil))
	return m
}

func TestHowManyCalls(t *testing.T) {
	for count := 1; count <= impl.FrameMax+3; count++ {
		ok := count <= impl.FrameMax
		mustMach(t, "calls", callUnit(), chain(count), ok, ok)
	}
}

func TestHowMuchIsSaid(t *testing.T) {
	u := callUnit()
	for _, count := range []int{0, 1, 2, impl.RunMax - 1, impl.RunMax, impl.RunMax + 1, impl.RunMax + 2, 1000} {
		for _, said := range allInts() {
			m := newByHand(u)
			m.Said = slices.Repeat([]int{said}, count)
			ok := count == 0 || count <= impl.RunMax && impl.IntLow <= said && said <= impl.IntHigh
			mustMach(t, "said", u, m, ok, ok)
		}
	}
	m := newByHand(u)
	m.Said = make([]int, impl.RunMax)
	for at := range m.Said {
		m.Said[at] = impl.IntHigh + 1
		mustNotBeOk(t, "one is no word", u, m)
		m.Said[at] = impl.IntHigh
		mustFit(t, "all are words", u, m)
	}
}

func TestHowMuchIsInThings(t *testing.T) {
	u := callUnit()
	for class := range u.Classes {
		types := fieldsOf(u.Classes, class)
		for count := range len(types) + 3 {
			o := thing(class)
			for i := range count {
				o.Vals = append(o.Vals, ref(0))
				if i < len(types) && types[i] == impl.TypeInt {
					o.Vals[i] = word(1)
				}
			}
			mustMach(t, "a thing", u, machOf(things(o), newByHand(u).Frames...), count == len(types), count == len(types))
		}
	}
	for count := range impl.ArrayMax + 3 {
		ok := count <= impl.ArrayMax
		for _, o := range things(thing(impl.ClassInts, make([]impl.Val, count)...), thing(impl.ClassRefs, slices.Repeat(refs(0), count)...)) {
			mustMach(t, "an array", u, machOf(things(o), newByHand(u).Frames...), ok, ok)
		}
	}
	for class := range impl.FaultRoom {
		m := newByHand(u)
		m.Objs[class].Vals = nil
		mustNotBeOk(t, "nothing in one that is thrown", u, m)
		m.Objs[class].Vals = vals(word(1), word(1))
		mustNotBeOk(t, "two in one that is thrown", u, m)
	}
}

func TestThingsOfNoClass(t *testing.T) {
	for _, u := range []impl.Unit{callUnit(), unitOf(twoClasses())} {
		for _, class := range allInts() {
			for count := range 7 {
				m := machOf(things(thing(class, make([]impl.Val, count)...)), newByHand(u).Frames...)
				ok := class == impl.ClassInts || class == impl.ClassRefs || 0 <= class && class < len(u.Classes) && count == fieldsByHand(u.Classes, class)
				if impl.MachOk(u, m) != ok {
					t.Fatalf("MachOk of %v is not %v", m, ok)
				}
				m.Objs[0].Class = class
				if impl.MachOk(u, m) != (ok && class == impl.ClassFail) {
					t.Fatalf("MachOk of %v is %v", m, !ok)
				}
			}
		}
	}
}

func TestWhereCallsAre(t *testing.T) {
	u := callUnit()
	h := machHandOf(u)
	for _, method := range allInts() {
		for _, at := range append(allInts(), 9, 10) {
			m := machOf(nil, frame(method, at, make([]impl.Val, 2)))
			if 0 <= method && method < len(u.Methods) {
				m.Frames[0].Locals = make([]impl.Val, u.Methods[method].Locals)
			}
			ok := 0 <= method && method < len(u.Methods) && 0 <= at && at <= len(u.Methods[method].Code)
			mustMach(t, "a call", u, m, ok, h.machFits(m))
		}
	}
}

// P39: no call is behind its code, neither the last one, nor one that waits.
func TestCallsBehindTheirCode(t *testing.T) {
	u := callUnit()
	size := len(u.Methods[3].Code)
	for count := 1; count <= impl.FrameMax; count++ {
		for i := range count {
			m := chain(count)
			m.Frames[i].At = size
			mustBeOk(t, "behind its code", u, m)
			m.Frames[i].Stack = nil
			mustBeOk(t, "behind its code", u, m)
			m.Frames[i].At = size + 1
			mustNotBeOk(t, "further behind", u, m)
		}
	}
}

func TestHowManyLocals(t *testing.T) {
	for most := range impl.LocalMax + 1 {
		u := oneMethod(most, ins(impl.InsPush, 1), ins(impl.InsBack))
		for count := range impl.LocalMax + 3 {
			m := machOf(nil, frame(0, 0, make([]impl.Val, count)))
			mustMach(t, "locals", u, m, count == most, count == most)
		}
		mustMach(t, "nil", u, machOf(nil, frame(0, 0, nil)), most == 0, most == 0)
	}
}

// P39: as many as are told are on the last stack, at each place.
func TestHowMuchIsOnTheLastStack(t *testing.T) {
	u := oneMethod(0, ins(impl.InsPush), ins(impl.InsPush), ins(impl.InsPush), ins(impl.InsPush), ins(impl.InsPop), ins(impl.InsPop), ins(impl.InsPop), ins(impl.InsBack))
	for at, told := range []int{0, 1, 2, 3, 4, 3, 2, 1} {
		for count := range impl.StackMax + 3 {
			m := machOf(nil, frame(0, at, nil, make([]impl.Val, count)...))
			mustMach(t, "the last stack", u, m, count <= impl.StackMax, count == told)
		}
	}
	waiting := callUnit()
	for count := range impl.StackMax + 3 {
		m := chain(2)
		m.Frames[1].Stack = make([]impl.Val, count)
		mustMach(t, "of a call above another", waiting, m, count <= impl.StackMax, count == 0)
		m.Frames[1].At = 2
		mustMach(t, "of a call above another", waiting, m, count <= impl.StackMax, count == 2)
	}
}

// valueUnit has a local, and something on the stack, at places to which one comes, where both are words, and at others.
func valueUnit() impl.Unit {
	u := oneMethod(1, ins(impl.InsPush), ins(impl.InsStore), ins(impl.InsPush), ins(impl.InsBack), ins(impl.InsThrow))
	return tell(u, 4, shape([]int{impl.TypeClass}, impl.TypeClass+impl.ClassFail))
}

// eachOneValue visits machines with that value at a place each.
func eachOneValue(v impl.Val, visit func(what string, m impl.Mach, fits func(t int) bool)) {
	more := things(thing(impl.ClassInts, word(0)), thing(impl.ClassRefs, ref(0)), thing(2, ref(0), ref(0)))
	in := func(types ...int) func(t int) bool { return func(t int) bool { return slices.Contains(types, t) } }
	m := machOf(copyHeap(heap{objs: more}).objs, frame(0, 3, vals(word(0)), word(0)))
	m.Frames[0].Locals[0] = v
	visit("a local that is a word", m, in(1))
	m = machOf(copyHeap(heap{objs: more}).objs, frame(0, 3, vals(word(0)), v))
	visit("on the stack", m, in(1))
	m = machOf(copyHeap(heap{objs: more}).objs, frame(0, 0, vals(v)))
	visit("a local of no type", m, func(int) bool { return true })
	m = machOf(copyHeap(heap{objs: more}).objs, frame(0, 4, vals(v), ref(1)))
	visit("a local of the root's", m, func(t int) bool { return t != 1 })
	m = machOf(copyHeap(heap{objs: more}).objs, frame(0, 4, vals(ref(0)), v))
	visit("what is to be thrown", m, in(2, 9))
	for i, types := range [][]int{{1}, {2, 3, 4, 8, 9, 10}, {2, 3}, {2, 11}} {
		m = machOf(copyHeap(heap{objs: more}).objs, frame(0, 0, vals(word(0))))
		*valuesOf(heap{objs: m.Objs[7:]})[i] = v
		visit("in a thing", m, in(types...))
	}
	m = machOf(copyHeap(heap{objs: more}).objs)
	m.End, m.Out = impl.EndDone, v
	visit("what is given back", m, in(1))
}

func TestWordsOfMachines(t *testing.T) {
	u := valueUnit()
	for _, n := range allInts() {
		eachOneValue(word(n), func(what string, m impl.Mach, fits func(t int) bool) {
			ok := impl.IntLow <= n && n <= impl.IntHigh
			mustMach(t, what, u, m, ok, ok && fits(1))
		})
	}
}

func TestValuesOfMachinesThatLead(t *testing.T) {
	u := valueUnit()
	types := []int{2, 9, 9, 9, 9, 9, 9, 9, 3, 4, 10}
	for _, n := range allInts() {
		eachOneValue(ref(n), func(what string, m impl.Mach, fits func(t int) bool) {
			ok := 0 <= n && n < len(types)
			mustMach(t, what, u, m, ok, ok && fits(types[n]))
		})
	}
}

func TestEnds(t *testing.T) {
	u := callUnit()
	more := things(thing(4, word(1), ref(0), word(2)), thing(2, ref(0), ref(0)), thing(0), thing(impl.ClassInts), thing(impl.ClassRefs))
	outs := slices.Concat(vals(word(0), word(1), word(-1), word(impl.IntLow), word(impl.IntLow-1), word(impl.IntHigh), word(impl.IntHigh+1)), refs(allInts()...))
	for _, end := range allInts() {
		for _, out := range outs {
			for _, running := range []bool{false, true} {
				m := machOf(more)
				if running {
					m.Frames = newByHand(u).Frames
				}
				m.End, m.Out = end, out
				leads := out.Ref && 1 <= out.N && out.N <= 12
				isVal := leads || out == ref(0) || !out.Ref && impl.IntLow <= out.N && out.N <= impl.IntHigh
				ok, fits := false, false
				switch {
				case (end == 0 || end == 3) && running:
					ok = out == word(0)
					fits = ok && end == 0
				case end == 1 && !running:
					ok = isVal
					fits = ok && !out.Ref
				case end == 2 && !running:
					ok = leads
					fits = ok && out.N <= 8
				}
				mustMach(t, "an end", u, m, ok, fits)
			}
		}
	}
}

// Things are numbered from 1 on: the last of them may be what was thrown.
func TestEndsByTheLastThing(t *testing.T) {
	u := callUnit()
	for n := range impl.FaultRoom + 2 {
		m := machOf(nil)
		m.End, m.Out = impl.EndThrown, ref(n)
		ok := 1 <= n && n <= impl.FaultRoom
		mustMach(t, "thrown", u, m, ok, ok)
	}
}
