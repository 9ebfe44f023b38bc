package tests

import (
	"slices"
	"testing"

	"loop.example/entail/impl"
)

// vmStep is a machine in a memory, what a step makes of it, by hand, and whether room became short.
type vmStep struct {
	ahead  vmHand
	behind vmHand
	short  bool
}

// endsWithNoWord says whether a first call gives back what is no word: none of a run does, and what that leaves is not ok.
func (s vmStep) endsWithNoWord() bool {
	m := s.ahead.m
	return s.behind.m.End == impl.EndDone && m.End == impl.EndNot && s.ahead.u.Methods[m.Frames[0].Method].Out != impl.TypeInt
}

// mustMoveVm is P87.
func (s vmStep) mustMoveVm(t *testing.T, v impl.Vm, behind impl.Vm) {
	t.Helper()
	u := s.ahead.u
	if s.ahead.stays() {
		if !equalVms(behind, v) {
			t.Fatalf("%v does not stay, it is %v", v, behind)
		}
		return
	}
	read, ok := vmHandOf(s.ahead.machHand, behind)
	if behind.Steps != v.Steps+1 || !ok || !impl.VmOk(u, behind) || !equalVms(read.vm(), behind) {
		t.Fatalf("in %v behind\n%v it is not ok, or not a step more:\n%v", u, v, behind)
	}
	if !slices.Equal(behind.Said[:min(len(v.Said), len(behind.Said))], v.Said) {
		t.Fatalf("%v was said, then %v", v.Said, behind.Said)
	}
}

// mustBeSeenAs is P88.
func (s vmStep) mustBeSeenAs(t *testing.T, v impl.Vm, behind impl.Vm) {
	t.Helper()
	u := s.ahead.u
	want := impl.MachView(u, impl.MachStep(u, impl.VmView(u, v)))
	if view := impl.VmView(u, behind); !equalMachs(view, want) {
		t.Fatalf("in %v behind\n%v one sees\n%v, not\n%v", u, v, view, want)
	}
}

// mustHaveNoRoom is P93: by hand, and by what the program says of the roots.
func (s vmStep) mustHaveNoRoom(t *testing.T, v impl.Vm) {
	t.Helper()
	made, makes := s.ahead.thingMade(s.ahead.insHand())
	words := 0
	for _, at := range impl.GcLive(s.ahead.u.Classes, v.Mem, impl.VmRoots(s.ahead.u, v)) {
		words += impl.MemSize(s.ahead.u.Classes, v.Mem, at)
	}
	if !makes || words != s.ahead.rooted().liveWords() || words+sizeOf(made) <= len(v.Mem.Words)-v.Mem.Young {
		t.Fatalf("of %v room became short, for %v, %t, and %d words", v, made, makes, words)
	}
}

// mustThrowRoom is P94.
func (s vmStep) mustThrowRoom(t *testing.T, v impl.Vm, behind impl.Vm) {
	t.Helper()
	if !behind.Short || !slices.Equal(behind.Said, v.Said) {
		t.Fatalf("behind\n%v room is not short, or something was said:\n%v", v, behind)
	}
	room := behind.Faults[impl.FaultRoom-1]
	if behind.End == impl.EndThrown {
		if behind.Out != room || len(behind.Calls) > 0 {
			t.Fatalf("behind\n%v another one was thrown:\n%v", v, behind)
		}
		return
	}
	if n := len(behind.Calls); behind.End != impl.EndNot || n == 0 || !slices.Equal(behind.Calls[n-1].Stack, []int{room}) {
		t.Fatalf("behind\n%v it was not caught:\n%v", v, behind)
	}
}

// mustMakeAsTold asks GcMake, of the roots ahead of the instruction: its memory and roots count, also if there was no room.
func (s vmStep) mustMakeAsTold(t *testing.T, v impl.Vm, behind impl.Vm) {
	t.Helper()
	if s.ahead.stays() {
		return
	}
	made, makes := s.ahead.thingMade(s.ahead.insHand())
	if !makes {
		return
	}
	mem, roots, at := impl.GcMake(s.ahead.u.Classes, v.Mem, impl.VmRoots(s.ahead.u, v), made.Class, len(made.Vals))
	if !equalMems(behind.Mem, mem) || !slices.Equal(behind.Faults, roots[:impl.FaultRoom]) || s.short != (at == 0) {
		t.Fatalf("of\n%v GcMake leaves %v, %v and %d, and VmStep\n%v", v, mem, roots, at, behind)
	}
	if at == 0 {
		return
	}
	if stack := lastCall(&behind).Stack; len(stack) == 0 || stack[len(stack)-1] != at {
		t.Fatalf("what was made at %d is not on top of %v", at, stack)
	}
}

// mustVmStepAs is VmStep by hand, and P87, P88, P93 and P94.
func mustVmStepAs(t *testing.T, h vmHand) vmStep {
	t.Helper()
	s := vmStep{ahead: h}
	s.behind, s.short = h.stepped()
	v, want := h.vm(), s.behind.vm()
	behind := impl.VmStep(h.u, v)
	if !equalVms(behind, want) {
		t.Fatalf("in %v\nVmStep of\n%v is\n%v, not\n%v", h.u, v, behind, want)
	}
	if s.endsWithNoWord() {
		return s
	}
	s.mustMoveVm(t, v, behind)
	s.mustMakeAsTold(t, v, behind)
	if s.short {
		s.mustHaveNoRoom(t, v)
		s.mustThrowRoom(t, v, behind)
		return s
	}
	if behind.Short != v.Short {
		t.Fatalf("behind\n%v room is short, or no more:\n%v", v, behind)
	}
	s.mustBeSeenAs(t, v, behind)
	return s
}

// vmStepsCounted is what there was among the steps that were made.
type vmStepsCounted struct {
	kinds                                    [impl.InsSay + 1]int
	stays, shortCaught, shortBelow, shortEnd int
	caught, ended, done, moved, loose        int
}

func (c *vmStepsCounted) add(s vmStep) {
	if s.ahead.stays() {
		c.stays++
		return
	}
	i := s.ahead.insHand().i
	c.kinds[i.Kind]++
	switch calls := len(s.ahead.m.Frames) - len(s.behind.m.Frames); {
	case s.short && s.behind.m.End == impl.EndThrown:
		c.shortEnd++
	case s.short && calls > 0:
		c.shortBelow++
	case s.short:
		c.shortCaught++
	case s.behind.m.End == impl.EndThrown:
		c.ended++
	case s.behind.m.End == impl.EndDone:
		c.done++
	case calls > 0 && i.Kind != impl.InsBack:
		c.caught++
	}
	if s.ahead.mem.inYoung > 0 && s.behind.mem.inYoung <= 1 && (i.Kind == impl.InsNew || i.Kind == impl.InsArr) {
		c.moved++
	}
	for k, f := range s.behind.m.Frames {
		if k < len(s.ahead.m.Frames) && slices.ContainsFunc(f.Locals, func(v impl.Val) bool { return !v.Ref && v.N > 127 }) {
			c.loose++
		}
	}
}

func (c *vmStepsCounted) least() int {
	return min(slices.Min(c.kinds[1:]), c.stays, c.shortCaught, c.shortBelow, c.shortEnd, c.caught, c.ended, c.done, c.moved, c.loose)
}

// P87, P88, P93, P94: machines in all kinds of memories, at all kinds of instructions.
func TestVmStepsByHand(t *testing.T) {
	var count vmStepsCounted
	hold := func(h vmHand) { count.add(mustVmStepAs(t, h)) }
	eachVm(71, 150, 15, hold)
	eachHostVm(71, 12, 15, hold)
	eachCaughtVm(71, []int{12, 12, 13, 7, 15, 18, 19, 20, 21, 23}, 15, 20, hold)
	eachTightVm(71, 20, 15, hold)
	if count.least() < 40 {
		t.Errorf("too few of something: %+v", count)
	}
}

// eachTightVm visits machines at an instruction that makes something, with hardly any room in either part.
func eachTightVm(seed int, units int, count int, visit func(h vmHand)) {
	d := &dice{state: uint64(seed)*104729 + 11}
	for _, kind := range []int{impl.InsNew, impl.InsArr} {
		eachHostMach(seed+kind, kind, units, count, func(own machHand, m impl.Mach) {
			m.Steps = d.roll(impl.RunMax)
			if h, room := d.laidIn(own, m, d.roll(16), impl.OldMin+d.roll(12)); room {
				visit(h)
			}
		})
	}
}

// P87, P88, P93, P94: where something is made, and there is room, or hardly any, or none.
func TestVmStepsWithHardlyAnyRoom(t *testing.T) {
	short, not, moved := 0, 0, 0
	eachTightVm(72, 80, 15, func(h vmHand) {
		s := mustVmStepAs(t, h)
		switch {
		case s.short:
			short++
		case s.behind.mem.inYoung < h.mem.inYoung:
			moved++
		default:
			not++
		}
	})
	if min(short, not, moved) < 200 {
		t.Error("too few of something", short, not, moved)
	}
}

// P87, P88: a machine goes on from where VmForce left it.
func TestVmStepsBehindForces(t *testing.T) {
	short, not := 0, 0
	visit := func(h vmHand) {
		for _, kind := range []int{1, 2} {
			next, room := h.forced(kind)
			if !room {
				continue
			}
			if mustVmStepAs(t, next).short {
				short++
			} else {
				not++
			}
		}
	}
	eachVm(73, 60, 8, visit)
	eachHostVm(73, 6, 8, visit)
	eachTightVm(73, 120, 10, visit)
	if short < 50 || not < 1000 {
		t.Error("too few of either", short, not)
	}
}

// P87, P88: what is put into an old thing, and leads to a young one, sets its card, and no other; all else of both parts stays.
func TestVmStepsThatSetCards(t *testing.T) {
	set, was, not := 0, 0, 0
	d := &dice{state: 75}
	for _, kind := range []int{impl.InsSet, impl.InsPut} {
		eachHostMach(75+kind, kind, 200, 20, func(own machHand, m impl.Mach) {
			m.Steps = 0
			h, room := d.laidIn(own, m, 24, impl.OldMin)
			if !room {
				return
			}
			h.mem.cards = make([]bool, len(h.mem.cards))
			h.mem = h.mem.withNeeded()
			s := mustVmStepAs(t, h)
			i, k := s.changed()
			switch {
			case i < 0 || !s.behind.mem.leadsYoung(i, k):
				not++
				if !slices.Equal(s.behind.mem.cards, h.mem.cards) {
					t.Fatalf("a card more, or fewer, behind %v: %v", h.vm(), s.behind.vm())
				}
			case h.mem.cards[h.mem.cardOf(i, k)]:
				was++
			default:
				set++
			}
		})
	}
	if set < 15 || was < 15 || not < 500 {
		t.Error("too few of something", set, was, not)
	}
}

// changed is the value of a thing that is another one behind a step; -1, if there is none.
func (s vmStep) changed() (int, int) {
	for i, o := range s.behind.mem.objs {
		for k, v := range o.Vals {
			if v != s.ahead.mem.objs[i].Vals[k] {
				return i, k
			}
		}
	}
	return -1, -1
}

// P87: one that has ended, or is full, stays, also where something would go wrong, and where there is no room.
func TestVmsThatStay(t *testing.T) {
	count := 0
	eachHostVm(74, 4, 5, func(h vmHand) {
		for _, change := range []func(m *impl.Mach){
			func(m *impl.Mach) { m.Steps = impl.RunMax },
			func(m *impl.Mach) { m.Said = slices.Repeat([]int{5}, impl.RunMax) },
			func(m *impl.Mach) { m.Frames, m.End, m.Out = nil, impl.EndDone, word(5) },
			func(m *impl.Mach) { m.Frames, m.End, m.Out = nil, impl.EndThrown, h.faults[3] },
		} {
			full := h.copied()
			change(&full.m)
			if v := full.vm(); !impl.VmOk(h.u, v) || !equalVms(impl.VmStep(h.u, v), v) {
				t.Fatalf("%v does not stay, it is %v", v, impl.VmStep(h.u, v))
			}
			count++
		}
		h.m.Steps, h.m.Said = impl.RunMax-1, slices.Repeat([]int{5}, impl.RunMax-1)
		if s := mustVmStepAs(t, h); s.behind.m.Steps != impl.RunMax {
			t.Fatalf("with one fewer of each it stays: %v", h.vm())
		}
	})
	if count < 500 {
		t.Error("too few", count)
	}
}

// P87, P88, P93, P94: each step of runs, behind what is moved ahead of it.
func TestVmStepsOfRuns(t *testing.T) {
	d := &dice{state: 77}
	short, not := 0, 0
	for _, u := range inMemoryUnits(0, 25) {
		a := vmAsk{own: machHandOf(u), forced: d.someForced()}
		a.young, a.old = d.someParts()
		h := newVmHand(a.own, a.young, a.old)
		for i := 0; !h.stays(); i++ {
			h, _ = h.forced(a.kindAhead(i))
			s := mustVmStepAs(t, h)
			if s.short {
				short++
			} else {
				not++
			}
			h = s.behind
		}
	}
	if short < 30 || not < 3000 {
		t.Error("too few of either", short, not)
	}
}
