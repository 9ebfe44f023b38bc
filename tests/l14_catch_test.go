package tests

import (
	"slices"
	"testing"

	"loop.example/entail/impl"
)

// throwUnit throws at place 4 of method 0 what is on top; its catches are those that are told. Method 1 has the same code, and catches nothing yet.
func throwUnit(catches ...impl.Catch) impl.Unit {
	code := []impl.Ins{ins(impl.InsPop), ins(impl.InsPop), ins(impl.InsPop), ins(impl.InsPop), ins(impl.InsThrow), ins(impl.InsPop), ins(impl.InsPop), ins(impl.InsPop)}
	u := oneMethod(1, slices.Clone(code)...)
	u.Methods[0].Catches = catches
	other := withCode(plainMethod(-1, 0), code...)
	other.Locals = 1
	u.Methods = append(u.Methods, other)
	return u
}

// mustCatch says that the k-th call of a machine catches a thing at a place: all above are gone, its locals stay, and the thing is alone on its stack.
func mustCatch(t *testing.T, what string, u impl.Unit, m impl.Mach, n int, k int, at int) {
	t.Helper()
	want := copyMach(m)
	want.Steps++
	want.Frames = want.Frames[:k+1]
	want.Frames[k].At, want.Frames[k].Stack = at, refs(n)
	mustStepTo(t, what, u, m, want)
}

// mustEnd says that nobody catches.
func mustEnd(t *testing.T, what string, u impl.Unit, m impl.Mach, n int) {
	t.Helper()
	want := copyMach(m)
	want.Steps++
	want.Frames, want.End, want.Out = nil, impl.EndThrown, ref(n)
	mustStepTo(t, what, u, m, want)
}

// thrower is at the place that throws the thing of that number, some more being on the stack.
func thrower(method int, n int) impl.Frame {
	return frame(method, 4, vals(word(33)), word(1), ref(8), ref(n))
}

// P47: all From and To, with the place in them or not.
func TestCatchesFromAndTo(t *testing.T) {
	for from := range 8 {
		for to := from + 1; to <= 8; to++ {
			for at := range 8 {
				u := throwUnit(impl.Catch{From: from, To: to, At: at, Class: impl.ClassFail})
				m := machOf(edgeThings(), thrower(0, 5))
				if from <= 4 && 4 < to {
					mustCatch(t, "in From..To-1", u, m, 5, 0, at)
				} else {
					mustEnd(t, "not in From..To-1", u, m, 5)
				}
			}
		}
	}
}

// P47: a class above catches, the class itself does, one below and one beside do not.
func TestCatchesByClass(t *testing.T) {
	for _, c := range []struct {
		cs      []impl.Class
		thrown  int
		catches int
		caught  bool
	}{
		{knownClasses(), 1, 1, true},
		{knownClasses(), 4, 1, true},
		{knownClasses(), 4, 4, true},
		{knownClasses(), 1, 4, false},
		{withClass(withClass(withClass(twoClasses(), 1, nil), 2, nil), 1, nil), 3, 1, true},
		{withClass(withClass(withClass(twoClasses(), 1, nil), 2, nil), 1, nil), 3, 2, true},
		{withClass(withClass(withClass(twoClasses(), 1, nil), 2, nil), 1, nil), 2, 3, false},
		{withClass(withClass(withClass(twoClasses(), 1, nil), 2, nil), 1, nil), 4, 2, false},
		{withClass(withClass(withClass(twoClasses(), 1, nil), 2, nil), 1, nil), 3, 4, false},
	} {
		u := throwUnit(impl.Catch{From: 4, To: 5, At: 6, Class: c.catches})
		u.Classes = c.cs
		m := machOf(oneOfEach(c.cs))
		n := 10 + c.thrown
		m.Frames = []impl.Frame{thrower(0, n)}
		if c.caught {
			mustCatch(t, "caught", u, m, n, 0, 6)
		} else {
			mustEnd(t, "not caught", u, m, n)
		}
	}
}

// P47: of two that both could the first does; the second, if the first cannot.
func TestTheFirstOfTwoCatches(t *testing.T) {
	wide := impl.Catch{From: 0, To: 8, At: 6, Class: 1}
	for _, c := range []struct {
		first  impl.Catch
		second impl.Catch
		thrown int
		at     int
	}{
		{wide, impl.Catch{From: 4, To: 5, At: 2, Class: 1}, 11, 6},
		{impl.Catch{From: 4, To: 5, At: 2, Class: 1}, wide, 11, 2},
		{wide, impl.Catch{From: 4, To: 5, At: 2, Class: 4}, 14, 6},
		{impl.Catch{From: 4, To: 5, At: 2, Class: 4}, wide, 14, 2},
		{impl.Catch{From: 4, To: 5, At: 2, Class: 4}, wide, 11, 6},
		{impl.Catch{From: 5, To: 8, At: 2, Class: 1}, wide, 11, 6},
		{impl.Catch{From: 0, To: 4, At: 2, Class: 1}, wide, 11, 6},
		{wide, wide, 7, 6},
	} {
		m := machOf(edgeThings(), thrower(0, c.thrown))
		mustCatch(t, "one of two", throwUnit(c.first, c.second), m, c.thrown, 0, c.at)
	}
	none := throwUnit(impl.Catch{From: 0, To: 4, At: 2, Class: 1}, impl.Catch{From: 5, To: 8, At: 2, Class: 1})
	mustEnd(t, "none of two", none, machOf(edgeThings(), thrower(0, 11)), 11)
}

// P47: calls that do not catch at their place go, one by one; the first from above that does stays, and all below it.
func TestCatchesOfCallsBelow(t *testing.T) {
	u := throwUnit(impl.Catch{From: 2, To: 4, At: 7, Class: 1}, impl.Catch{From: 3, To: 4, At: 5, Class: 4})
	catcher, beside := frame(0, 3, vals(word(44)), word(6), word(7)), frame(0, 4, vals(word(45)), word(6))
	for count := 1; count <= impl.FrameMax; count++ {
		for mask := range 1 << (count - 1) {
			m := machOf(edgeThings())
			highest := -1
			for k := range count - 1 {
				f := beside
				if mask>>k&1 == 1 {
					f, highest = catcher, k
				}
				m.Frames = append(m.Frames, f)
			}
			m.Frames = append(m.Frames, thrower(1, 14))
			if highest == -1 {
				mustEnd(t, "nobody catches", u, m, 14)
			} else {
				mustCatch(t, "one below catches", u, m, 14, highest, 7)
			}
		}
	}
}

// P47: each call catches by its own method, and by its own place, at the end of its code none.
func TestCatchesAreOfTheCallsOwnMethod(t *testing.T) {
	u := throwUnit(impl.Catch{From: 0, To: 8, At: 7, Class: 1})
	mustEnd(t, "the other method catches", u, machOf(edgeThings(), thrower(1, 3)), 3)
	m := machOf(edgeThings(), frame(0, 8, vals(word(1))), thrower(1, 3))
	mustEnd(t, "one below is at the end of its code", u, m, 3)
	m.Frames[0].At = 7
	mustCatch(t, "one below is at the last place", u, m, 3, 0, 7)
	m.Frames[0].At = 0
	mustCatch(t, "one below is at the first place", u, m, 3, 0, 7)
}

// P47, P52: what goes wrong when too many calls are made is caught where the last call is, or below.
func TestWhatGoesWrongDeep(t *testing.T) {
	u := oneMethod(0, ins(impl.InsCall, 0), ins(impl.InsBack), ins(impl.InsGet, 1, 0), ins(impl.InsBack))
	u = catching(u, impl.Catch{From: 0, To: 1, At: 2, Class: 1})
	m := impl.MachRun(u, impl.FrameMax)
	want := machOf(nil, slices.Repeat([]impl.Frame{frame(0, 0, nil)}, impl.FrameMax)...)
	want.Steps = impl.FrameMax
	*last(&want) = frame(0, 2, nil, ref(impl.FaultDeep))
	if !equalMachs(m, want) {
		t.Fatalf("it is %v, not %v", m, want)
	}
	m = impl.MachRun(u, impl.RunMax)
	if m.End != impl.EndDone || m.Out != word(impl.FaultDeep) || m.Steps != 9 {
		t.Fatalf("it is %v", m)
	}
}

// What is thrown when something goes wrong is the thing itself, whatever is in it by then.
func TestWhatIsThrownHoldsWhatWasPut(t *testing.T) {
	u := oneMethod(0, ins(impl.InsNull), ins(impl.InsThrow), ins(impl.InsDup), ins(impl.InsPush, 99), ins(impl.InsPut, 1, 0), ins(impl.InsNull), ins(impl.InsLen), ins(impl.InsBack), ins(impl.InsGet, 1, 0), ins(impl.InsBack))
	u = catching(u, impl.Catch{From: 0, To: 2, At: 2, Class: 1}, impl.Catch{From: 2, To: 8, At: 8, Class: 1})
	m := impl.MachRun(u, impl.RunMax)
	if m.End != impl.EndDone || m.Out != word(99) || m.Steps != 9 || m.Objs[1].Vals[0] != word(99) {
		t.Fatalf("it is %v", m)
	}
}

// P40: a machine that has ended, or is full, stays, also where something would go wrong.
func TestMachinesThatStay(t *testing.T) {
	full := thing(impl.ClassInts)
	for _, e := range allEdges() {
		u := edgeUnit(e.i)
		for _, stack := range [][]impl.Val{e.takes, nil, filler(4)} {
			for _, change := range []func(m *impl.Mach){
				func(m *impl.Mach) { m.Steps = impl.RunMax },
				func(m *impl.Mach) { m.Said = make([]int, impl.RunMax) },
				func(m *impl.Mach) {
					m.Objs = append(m.Objs, slices.Repeat(things(full), impl.FaultRoom+impl.RunMax-len(m.Objs))...)
				},
				func(m *impl.Mach) { m.End = impl.EndStuck },
				func(m *impl.Mach) { m.Frames, m.End, m.Out = nil, impl.EndDone, word(5) },
				func(m *impl.Mach) { m.Frames, m.End, m.Out = nil, impl.EndDone, ref(12) },
				func(m *impl.Mach) { m.Frames, m.End, m.Out = nil, impl.EndThrown, ref(3) },
			} {
				m := edgeMach(stack...)
				change(&m)
				mustStepTo(t, "it stays", u, m, m)
			}
		}
	}
}

// P40: with one fewer of each it does not stay yet.
func TestMachinesThatAreNearlyFull(t *testing.T) {
	for _, i := range []impl.Ins{ins(impl.InsPush, 1), ins(impl.InsNew, 2), ins(impl.InsSay)} {
		u := edgeUnit(i)
		for _, change := range []func(m *impl.Mach){
			func(m *impl.Mach) { m.Steps = impl.RunMax - 1 },
			func(m *impl.Mach) { m.Said = make([]int, impl.RunMax-1) },
			func(m *impl.Mach) {
				m.Objs = append(m.Objs, slices.Repeat(things(thing(0)), impl.FaultRoom+impl.RunMax-1-len(m.Objs))...)
			},
		} {
			m := edgeMach(word(3))
			change(&m)
			mustStepTo(t, "nearly full", u, m, handOf(u).stepByHand(m))
			if behind := impl.MachStep(u, m); behind.Steps != m.Steps+1 || !impl.MachOk(u, behind) || behind.End != impl.EndNot {
				t.Fatalf("behind %v it is %v", i, behind)
			}
		}
	}
}
