package tests

import (
	"slices"
	"testing"

	"loop.example/entail/impl"
)

// vmMake is a host that makes a thing in a memory: what is in its call ahead of that, and behind it, where left is nothing if there is no room; how far each part is in use then, and where the last of what is thrown is.
type vmMake struct {
	what   string
	i      impl.Ins
	v      impl.Vm
	locals []int
	stack  []int
	then   []int
	left   []int
	top    int
	old    int
	room   int
}

// unit has local 0 of no type.
func (c vmMake) unit() impl.Unit {
	stack := []int{inAny, inRefs}
	if c.i.Kind == impl.InsArr {
		stack = append(stack, inWord)
	}
	return hostUnitOf(c.i, shape([]int{impl.TypeNone, inTwo, inInts}, stack...), 1)
}

// makingUnit is one in whose memories the machines begin that are to make something.
func makingUnit() impl.Unit {
	return vmMake{i: ins(impl.InsNew, 2)}.unit()
}

func (c vmMake) vm() impl.Vm {
	v := copyVm(c.v)
	v.Calls = []impl.Call{{At: hostAt, Locals: slices.Clone(c.locals), Stack: slices.Clone(c.stack)}}
	v.Said, v.Steps = []int{8}, 30
	return v
}

// mustLeave asks for what is told, and for all else by hand.
func (c vmMake) mustLeave(t *testing.T, u impl.Unit, v impl.Vm, calls ...impl.Call) impl.Vm {
	t.Helper()
	h, ok := vmHandOf(machHandOf(u), v)
	if !ok {
		t.Fatalf("%s: %v is not ok", c.what, v)
	}
	s := mustVmStepAs(t, h)
	behind := impl.VmStep(u, v)
	if s.short != (c.left == nil) || behind.Short != s.short || behind.Mem.Top != c.top || behind.Mem.Old != c.old || behind.Faults[impl.FaultRoom-1] != c.room {
		t.Errorf("%s: it is %v", c.what, behind)
	}
	if !slices.EqualFunc(behind.Calls, calls, equalCalls) {
		t.Errorf("%s: the calls are %v, not %v", c.what, behind.Calls, calls)
	}
	return behind
}

// mustMake has what is thrown caught by none, by the call itself, and by the one that waits.
func (c vmMake) mustMake(t *testing.T) {
	t.Helper()
	u, v := c.unit(), c.vm()
	own := impl.Call{At: hostAt + 1, Locals: c.then, Stack: c.left}
	if c.left != nil {
		c.mustLeave(t, u, v, own)
		c.mustLeave(t, withCatch(u), v, own)
		return
	}
	if behind := c.mustLeave(t, u, v); behind.End != impl.EndThrown || behind.Out != c.room {
		t.Errorf("%s: caught by none it is %v", c.what, behind)
	}
	own.At, own.Stack = lastTold(u), []int{c.room}
	c.mustLeave(t, withCatch(u), v, own)
	v.Calls = []impl.Call{{Method: 1, Locals: []int{c.locals[2], c.locals[1]}}, v.Calls[0]}
	c.mustLeave(t, caughtByCallers(u, 1), v, impl.Call{Method: 1, At: 2, Locals: []int{c.then[2], c.then[1]}, Stack: []int{c.room}})
}

// withOld has a thing more in the old part, which begins there.
func withOld(t *testing.T, u impl.Unit, v impl.Vm, at int, class int, n int) impl.Vm {
	t.Helper()
	mem, is := impl.MemMake(u.Classes, v.Mem, class, n, true)
	if is != at {
		t.Fatal("it is at", is)
	}
	v.Mem = mem
	return v
}

// linkedVm is parted, what is young leading to each other: 5 to 1, and 8 to 5; so does the old thing at 27, to 30.
func linkedVm(t *testing.T, u impl.Unit) impl.Vm {
	t.Helper()
	v := parted(t, u)
	for _, put := range [][3]int{{5, 0, 1}, {8, 1, 5}, {27, 0, 30}} {
		v = putVm(t, u, v, put[0], put[1], put[2])
	}
	return v
}

// P87, P88, P93, P94: in parts of 12 and 30 words, what is made being tried in the young one: where there is room; where what is young moves first; where all moves together; where there is none. What a local of no type holds stays, be it a place or not.
func TestWhatIsMadeInTheYoungPart(t *testing.T) {
	u := makingUnit()
	v := linkedVm(t, u)
	fuller := withOld(t, u, v, 32, 2, 0)
	full := withOld(t, u, fuller, 35, impl.ClassInts, 6)
	live := withOld(t, u, v, 32, impl.ClassRefs, 6)
	for _, c := range []vmMake{
		{"room for just a word", ins(impl.InsNew, 0), v, []int{5, 5, 1}, []int{5, 8}, []int{5, 5, 1}, []int{5, 8, 12}, 12, 31, 25},
		{"what is young moves", ins(impl.InsNew, 3), v, []int{5, 5, 1}, []int{5, 8}, []int{5, 32, 35}, []int{32, 38, 1}, 4, 41, 25},
		{"not where a local of no type leads", ins(impl.InsNew, 2), v, []int{5, 27, 30}, []int{27, 0}, []int{5, 27, 30}, []int{27, 0, 1}, 3, 31, 25},
		{"an array of 0", ins(impl.InsArr, 0), v, []int{5, 5, 1}, []int{5, 8, 0}, []int{5, 32, 35}, []int{32, 38, 1}, 2, 41, 25},
		{"an array of ArrayMax", ins(impl.InsArr, 1), v, []int{8, 5, 1}, []int{5, 8, impl.ArrayMax}, []int{8, 32, 35}, []int{32, 38, 1}, 8, 41, 25},
		{"how many is no place", ins(impl.InsArr, 1), v, []int{0, 0, 1}, []int{4, 0, 5}, []int{0, 0, 32}, []int{35, 0, 1}, 7, 35, 25},
		{"all moves together", ins(impl.InsNew, 4), fuller, []int{27, 5, 1}, []int{5, 8}, []int{27, 30, 27}, []int{30, 33, 1}, 4, 36, 25},
		{"what is old stays first", ins(impl.InsArr, 1), fuller, []int{-7, 5, 1}, []int{27, 8, 3}, []int{-7, 35, 32}, []int{27, 38, 1}, 5, 41, 25},
		{"what is old moves", ins(impl.InsNew, 2), full, []int{35, 5, 1}, []int{35, 0}, []int{35, 38, 35}, []int{27, 0, 1}, 3, 40, 25},
		{"no room", ins(impl.InsNew, 2), live, []int{1000, 5, 1}, []int{32, 8}, []int{1000, 5, 1}, nil, 11, 39, 25},
		{"no room for an array of 0", ins(impl.InsArr, 0), live, []int{5, 5, 1}, []int{32, 8, 0}, []int{5, 5, 1}, nil, 11, 39, 25},
		{"no room for an array of ArrayMax", ins(impl.InsArr, 1), live, []int{5, 5, 1}, []int{32, 8, impl.ArrayMax}, []int{5, 5, 1}, nil, 11, 39, 25},
		{"room though all is in use", ins(impl.InsNew, 0), live, []int{5, 5, 1}, []int{32, 8}, []int{5, 5, 1}, []int{32, 8, 12}, 12, 39, 25},
	} {
		c.mustMake(t)
	}
}

// narrowVm has a young part of 3 words, full with a thing of class 2, and those that are thrown at 4 to 16, nothing at 18, and an array at 21 that leads to what is young.
func narrowVm(t *testing.T, u impl.Unit, old int) impl.Vm {
	t.Helper()
	v := impl.VmNew(u, 3, old)
	v.Mem, _ = impl.MemMake(u.Classes, v.Mem, 2, 0, false)
	v = withOld(t, u, withOld(t, u, v, 18, 2, 0), 21, impl.ClassRefs, 4)
	return putVm(t, u, v, 21, 3, 1)
}

// P87, P88, P93, P94: an array that is too large for the young part is made in the old one; all is moved together for it, also if there is no room even then.
func TestWhatIsMadeInTheOldPart(t *testing.T) {
	u := makingUnit()
	v, wider := narrowVm(t, u, 26), narrowVm(t, u, 30)
	for _, c := range []vmMake{
		{"just room", ins(impl.InsArr, 1), wider, []int{1, 1, 0}, []int{1, 21, 5}, []int{1, 1, 0}, []int{1, 21, 27}, 3, 33, 16},
		{"as large as the young part", ins(impl.InsArr, 0), v, []int{1, 1, 0}, []int{1, 21, 1}, []int{1, 27, 0}, []int{27, 21, 1}, 3, 29, 16},
		{"all moves together", ins(impl.InsArr, 0), wider, []int{1, 1, 0}, []int{0, 0, 6}, []int{1, 18, 0}, []int{0, 0, 21}, 0, 28, 16},
		{"a thing of a class", ins(impl.InsNew, 3), wider, []int{1, 1, 0}, []int{1, 21}, []int{1, 1, 0}, []int{1, 21, 27}, 3, 30, 16},
		{"no room, and all moves", ins(impl.InsArr, 0), v, []int{1, 1, 0}, []int{1, 21, 6}, []int{1, 24, 0}, nil, 0, 26, 16},
		{"no room by a word", ins(impl.InsArr, 1), v, []int{21, 1, 0}, []int{0, 21, 2}, []int{21, 24, 0}, nil, 0, 26, 16},
		{"no room for a thing of a class", ins(impl.InsNew, 4), v, []int{24, 1, 0}, []int{1, 21}, []int{24, 24, 0}, nil, 0, 26, 16},
	} {
		c.mustMake(t)
	}
}

// P87, P88, P93, P94: with no young part all is made in the old one.
func TestWhatIsMadeWithNoYoungPart(t *testing.T) {
	u := makingUnit()
	v := withOld(t, u, withOld(t, u, impl.VmNew(u, 0, 24), 15, 2, 0), 18, impl.ClassRefs, 2)
	for _, c := range []vmMake{
		{"a word", ins(impl.InsNew, 0), v, []int{1, 15, 0}, []int{15, 18}, []int{1, 15, 0}, []int{15, 18, 22}, 0, 22, 13},
		{"just room", ins(impl.InsNew, 2), v, []int{18, 15, 0}, []int{15, 18}, []int{18, 15, 0}, []int{15, 18, 22}, 0, 24, 13},
		{"what is left moves", ins(impl.InsNew, 4), v, []int{18, 0, 0}, []int{0, 18}, []int{18, 0, 0}, []int{0, 15, 19}, 0, 22, 13},
		{"just room behind that", ins(impl.InsArr, 0), v, []int{18, 0, 0}, []int{0, 18, 4}, []int{18, 0, 0}, []int{0, 15, 19}, 0, 24, 13},
		{"no room, and it moves", ins(impl.InsArr, 0), v, []int{18, 0, 0}, []int{0, 18, 5}, []int{18, 0, 0}, nil, 0, 18, 13},
		{"no room", ins(impl.InsArr, 0), v, []int{0, 15, 0}, []int{0, 18, 2}, []int{0, 15, 0}, nil, 0, 21, 13},
	} {
		c.mustMake(t)
	}
}

// lateFaults has the last of what is thrown in a young part of 2 words, and the others at 8 to 18; nothing is at 3, and an array at 4.
func lateFaults(t *testing.T, old int) impl.Vm {
	t.Helper()
	u := makingUnit()
	list := firstThings()
	h := vmHand{machHand: machHandOf(u), mem: emptyMem(knownClasses(), 2, old), faults: refs(4, 5, 6, 7, 8, 9, 1), m: machOf(nil, frame(0, 0, vals(word(0), word(0), word(0))))}
	h.mem.objs = slices.Concat(list[6:], things(thing(0), thing(impl.ClassRefs, refs(0, 0)...)), list[:6])
	h.mem.inYoung = 1
	h.mem = h.mem.withNeeded()
	v := h.vm()
	if !slices.Equal(v.Faults, []int{8, 10, 12, 14, 16, 18, 1}) || !impl.VmOk(u, v) {
		t.Fatal(v)
	}
	return v
}

// P87, P88, P93, P94: what is thrown when something goes wrong is where it is behind all that was moved.
func TestWhatIsThrownMoves(t *testing.T) {
	for _, c := range []vmMake{
		{"young", ins(impl.InsNew, 0), lateFaults(t, 20), []int{1, 0, 0}, []int{0, 4}, []int{1, 0, 0}, []int{0, 4, 1}, 1, 21, 20},
		{"just room", ins(impl.InsArr, 0), lateFaults(t, 22), []int{1, 0, 0}, []int{0, 4, 2}, []int{1, 0, 0}, []int{0, 4, 20}, 2, 23, 1},
		{"all", ins(impl.InsArr, 0), lateFaults(t, 20), []int{1, 0, 0}, []int{0, 0, 2}, []int{1, 0, 0}, []int{0, 0, 17}, 0, 20, 15},
		{"no room", ins(impl.InsArr, 0), lateFaults(t, 20), []int{1, 0, 0}, []int{0, 4, 2}, []int{1, 0, 0}, nil, 0, 20, 19},
		{"no room for a thing", ins(impl.InsNew, 3), lateFaults(t, 20), []int{4, 0, 0}, []int{18, 4}, []int{4, 0, 0}, nil, 0, 20, 19},
	} {
		c.mustMake(t)
	}
}

// P87, P88, P94: of arrays of which there are none nothing moves, and room is not short, be there any or not.
func TestArraysOfWhichThereAreNoneInMemories(t *testing.T) {
	u := makingUnit()
	v := linkedVm(t, u)
	live := withOld(t, u, v, 32, impl.ClassRefs, 6)
	for _, n := range []int{-128, -1, impl.ArrayMax + 1, 127} {
		for kind := range 2 {
			for _, at := range []impl.Vm{v, live} {
				for _, short := range []bool{false, true} {
					c := vmMake{i: ins(impl.InsArr, kind), v: at, locals: []int{5, 5, 1}, stack: []int{5, 8, n}}
					ahead := c.vm()
					ahead.Short = short
					want := copyVm(ahead)
					want.Steps++
					want.Calls, want.End, want.Out = nil, impl.EndThrown, v.Faults[impl.FaultSize-1]
					mustVmStepTo(t, "no array", c.unit(), ahead, want)
				}
			}
		}
	}
}

// P87, P88: what is on the stack of a call that waits, and in its locals, leads to the same things behind what was moved.
func TestCallsThatWaitWhileThingsMove(t *testing.T) {
	u := pairUnit()
	v := parted(t, u)
	v = withOld(t, u, withOld(t, u, v, 32, 3, 0), 36, 4, 0)
	v.Calls = []impl.Call{{At: 5, Locals: []int{5}, Stack: []int{32, 27}}, {Method: 1, Locals: []int{36}}}
	v = putVm(t, u, putVm(t, u, v, 32, 1, 32), 36, 1, 4)
	s := mustVmStepOf(t, u, v)
	// Nothing leads to 1, 8 and 30.
	want := []impl.Call{{At: 5, Locals: []int{39}, Stack: []int{30, 27}}, {Method: 1, At: 1, Locals: []int{34}, Stack: []int{1}}}
	if !slices.EqualFunc(s.Calls, want, equalCalls) || s.Mem.Words[35] != 38 || s.Mem.Words[31] != 30 || s.Short {
		t.Errorf("it is %v", s)
	}
}

// mustVmStepOf is VmStep, asked by hand.
func mustVmStepOf(t *testing.T, u impl.Unit, v impl.Vm) impl.Vm {
	t.Helper()
	h, ok := vmHandOf(machHandOf(u), v)
	if !ok {
		t.Fatalf("%v is not ok", v)
	}
	mustVmStepAs(t, h)
	return impl.VmStep(u, v)
}
