package tests

import (
	"slices"
	"testing"

	"loop.example/entail/impl"
)

// vmAsk is a run that is asked for: a unit that is passed, parts that may be, and what is moved ahead of which step.
type vmAsk struct {
	own    machHand
	young  int
	old    int
	forced []int
}

func (a vmAsk) byHand() vmRunHand {
	return runVmByHand(a.own, a.young, a.old, a.forced)
}

func (a vmAsk) run(steps int) impl.Vm {
	return impl.VmRun(a.own.u, a.young, a.old, steps, a.forced)
}

// kindAhead is what is moved ahead of the i-th step.
func (a vmAsk) kindAhead(i int) int {
	if i < len(a.forced) {
		return a.forced[i]
	}
	return 0
}

// chain is all machines of a run, from the beginning on, by VmForce and VmStep alone, each ok, till one stays.
func (a vmAsk) chain(t *testing.T) []impl.Vm {
	t.Helper()
	all := []impl.Vm{impl.VmNew(a.own.u, a.young, a.old)}
	for i := 0; ; i++ {
		v := all[i]
		if v.Steps != i || !impl.VmOk(a.own.u, v) {
			t.Fatalf("in %v behind %d steps it is %v", a.own.u, i, v)
		}
		if v.End != impl.EndNot || v.Steps == impl.RunMax {
			return all
		}
		all = append(all, impl.VmStep(a.own.u, impl.VmForce(a.own.u, v, a.kindAhead(i))))
	}
}

// mustRunAs is P91 and P92 for some numbers of steps: all are made, or it has ended; and each machine by hand.
func (a vmAsk) mustRunAs(t *testing.T, someCounts func(r vmRunHand) []int) []impl.Vm {
	t.Helper()
	hand, all := a.byHand(), a.chain(t)
	counts := someCounts(hand)
	for i, v := range all {
		if want := hand.behind(i).vm(); len(all) != len(hand.all) || !equalVms(v, want) {
			t.Fatalf("in %v, %d and %d, %v, behind %d steps it is\n%v, not\n%v", a.own.u, a.young, a.old, a.forced, i, v, want)
		}
	}
	for _, steps := range counts {
		want := all[min(steps, len(all)-1)]
		if got := a.run(steps); !equalVms(got, want) {
			t.Fatalf("in %v, %d and %d, %v, VmRun of %d steps is\n%v, not\n%v", a.own.u, a.young, a.old, a.forced, steps, got, want)
		}
	}
	return all
}

// mustBeSeenAlike is P89 and P98, and that room that was short was: all is the machines of a run.
func (a vmAsk) mustBeSeenAlike(t *testing.T, all []impl.Vm) {
	t.Helper()
	machs := a.own.runByHand()
	said := machs[len(machs)-1].Said
	for i, v := range all {
		if i > 0 && all[i-1].Short && !v.Short {
			t.Fatalf("in %v room was short, and is no more, behind %d steps: %v", a.own.u, i, v)
		}
		if v.Short {
			continue
		}
		if len(v.Said) > len(said) || !slices.Equal(v.Said, said[:len(v.Said)]) {
			t.Fatalf("in %v one says %v, and with room for everything %v", a.own.u, v.Said, said)
		}
		want := a.own.viewByHand(machs[min(i, len(machs)-1)], refs(1, 2, 3, 4, 5, 6, 7))
		if view := impl.VmView(a.own.u, v); i >= len(machs) || !equalMachs(view, want) {
			t.Fatalf("in %v, %d and %d, %v, behind %d steps one sees\n%v, not\n%v", a.own.u, a.young, a.old, a.forced, i, view, want)
		}
	}
}

// someCounts are numbers of steps: none, one, all, around where room becomes short, or it ends, and others.
func (d *dice) someCounts(r vmRunHand) []int {
	end, short := len(r.all)-1, max(0, r.firstShort())
	return []int{0, 1, 2, short, short + 1, max(0, end-1), end, min(end+1, impl.RunMax), d.roll(impl.RunMax), impl.RunMax}
}

func everyCount(vmRunHand) []int {
	var all []int
	for steps := range impl.RunMax + 1 {
		all = append(all, steps)
	}
	return all
}

// vmRunsCounted is what there was among the runs.
type vmRunsCounted struct {
	short, not, shortAndOn, ended, thrown, full, moved, said int
}

func (c *vmRunsCounted) add(all []impl.Vm) {
	v := all[len(all)-1]
	switch short := slices.IndexFunc(all, func(v impl.Vm) bool { return v.Short }); {
	case short < 0:
		c.not++
	case short < len(all)-1:
		c.shortAndOn++
		c.short++
	default:
		c.short++
	}
	switch {
	case v.End == impl.EndDone:
		c.ended++
	case v.End == impl.EndThrown:
		c.thrown++
	default:
		c.full++
	}
	for i := range all[1:] {
		if all[i].Mem.Top > all[i+1].Mem.Top {
			c.moved++
			break
		}
	}
	if len(v.Said) > 0 {
		c.said++
	}
}

func (c *vmRunsCounted) mustBeMany(t *testing.T, least int) {
	t.Helper()
	if min(c.short, c.not, c.shortAndOn, c.ended, c.thrown, c.full, c.moved, c.said) < least {
		t.Errorf("too few of something: %+v", *c)
	}
}

// P89, P91, P92, P98: runs in all kinds of parts, whatever is moved, machine by machine.
func TestRunsInSomeMemories(t *testing.T) {
	var count vmRunsCounted
	d := &dice{state: 3201}
	for i, u := range slices.Concat(runVms(32), inMemoryUnits(0, 100)) {
		own := machHandOf(u)
		for k := range 2 {
			young, old := d.someParts()
			a := vmAsk{own, young, old, d.someForced()}
			counts := d.someCounts
			if k == 0 && i%20 == 0 {
				counts = everyCount
			}
			all := a.mustRunAs(t, counts)
			a.mustBeSeenAlike(t, all)
			count.add(all)
		}
	}
	count.mustBeMany(t, 25)
}

// memoriesOf are runs of a unit in the smallest memory and in the greatest, with no young part, with things moved ahead of each step and of none, and in others.
func (d *dice) memoriesOf(own machHand) []vmAsk {
	every := func(kinds ...int) []int { return slices.Repeat(kinds, impl.RunMax/len(kinds)) }
	all := []vmAsk{
		{own, 0, impl.OldMin, nil},
		{own, impl.YoungMax, impl.OldMax, nil},
		{own, impl.YoungMax, impl.OldMax, every(1)},
		{own, impl.YoungMax, impl.OldMax, every(2)},
		{own, 0, impl.OldMax, nil},
		{own, 0, impl.OldMax, every(2)},
		{own, impl.YoungMax, impl.OldMin, every(1, 2)},
		{own, 1, impl.OldMin + 20, every(0, 0, 1, 0, 2)},
	}
	for range 4 {
		young, old := d.someParts()
		all = append(all, vmAsk{own, young, old, d.someForced()})
	}
	return all
}

// P90: step by step, as long as room was short in neither.
func TestRunsInTwoMemoriesAreSeenAlike(t *testing.T) {
	d := &dice{state: 3205}
	alike, apart := 0, 0
	for _, u := range inMemoryUnits(100, 12) {
		own := machHandOf(u)
		var runs [][]impl.Vm
		var views [][]impl.Mach
		for _, a := range d.memoriesOf(own) {
			all := a.chain(t)
			runs = append(runs, all)
			var seen []impl.Mach
			for _, v := range all {
				seen = append(seen, impl.VmView(u, v))
			}
			views = append(views, seen)
		}
		for i := range runs {
			for k := range i {
				for n := range max(len(runs[i]), len(runs[k])) {
					one, other := min(n, len(runs[i])-1), min(n, len(runs[k])-1)
					if runs[i][one].Short || runs[k][other].Short {
						apart++
						break
					}
					if !equalMachs(views[i][one], views[k][other]) {
						t.Fatalf("in %v behind %d steps it is\n%v, and\n%v", u, n, runs[i][one], runs[k][other])
					}
					alike++
				}
			}
		}
	}
	if alike < 100000 || apart < 300 {
		t.Error("too few of either", alike, apart)
	}
}

// wordsBehind is how many words all things have that were made by so many steps, with what is thrown.
func wordsBehind(machs []impl.Mach, steps int) int {
	return sizesOf(machs[min(steps, len(machs)-1)].Objs)
}

// P95: in an old part with just as many words as all things have by some step room is not short by then, whatever is young, and whatever is moved.
func TestRoomIsNotShortWhereAllFits(t *testing.T) {
	d := &dice{state: 3207}
	made, full := 0, 0
	for _, u := range slices.Concat(runVms(33), inMemoryUnits(20, 60)) {
		own := machHandOf(u)
		machs := own.runByHand()
		for range 4 {
			steps := d.roll(len(machs))
			if d.roll(3) > 0 {
				for steps < len(machs)-1 && wordsBehind(machs, steps+1) <= impl.OldMax {
					steps++
				}
			}
			words := wordsBehind(machs, steps)
			if words > impl.OldMax {
				continue
			}
			young, _ := d.someParts()
			for _, old := range []int{words, min(words+1, impl.OldMax), impl.OldMax} {
				a := vmAsk{own, young, old, d.someForced()}
				v := a.run(steps)
				if v.Short || v.Steps != min(steps, len(machs)-1) {
					t.Fatalf("in %v, %d and %d, %v, behind %d steps room is short for %d words: %v", u, young, old, a.forced, steps, words, v)
				}
				if words > 14 {
					made++
				}
				if len(v.Mem.Words)-v.Mem.Old < 4 {
					full++
				}
			}
		}
	}
	if made < 300 || full < 50 {
		t.Error("too few of either", made, full)
	}
}

// P95, P93: where all that was made is live, a word less is too few.
func TestRoomIsShortByAWord(t *testing.T) {
	for _, u := range []impl.Unit{untilShortUnit(), nestUnit()} {
		own := machHandOf(u)
		machs := own.runByHand()
		for steps := 1; steps < len(machs) && wordsBehind(machs, steps) <= impl.OldMax; steps++ {
			words := wordsBehind(machs, steps)
			if words == wordsBehind(machs, steps-1) {
				continue
			}
			for _, forced := range [][]int{nil, slices.Repeat([]int{1}, impl.RunMax), slices.Repeat([]int{2}, impl.RunMax)} {
				a := vmAsk{own, 0, words, forced}
				if v := a.run(steps); v.Short || v.Steps != steps {
					t.Fatalf("room is short: %v", v)
				}
				a.old--
				if v := a.run(steps); a.old >= impl.OldMin && (!v.Short || v.Steps != steps) {
					t.Fatalf("room is not short: %v", v)
				}
			}
		}
	}
}
