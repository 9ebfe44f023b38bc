package tests

import (
	"slices"
	"testing"

	"loop.example/entail/impl"
)

// mustThrowInOrder is P96 of one machine: what is thrown tells 1 to FaultRoom.
func mustThrowInOrder(t *testing.T, u impl.Unit, v impl.Vm) {
	t.Helper()
	if len(v.Faults) != impl.FaultRoom {
		t.Fatalf("in %v there are others: %v", u, v)
	}
	for i, at := range v.Faults {
		n, is := impl.MemGet(u.Classes, v.Mem, at, 0)
		if !is || n != i+1 || v.Mem.Words[at-1] != impl.ClassFail || slices.Contains(v.Faults[:i], at) {
			t.Fatalf("in %v the %d-th of %v tells %d: %v", u, i, v.Faults, n, v)
		}
	}
}

// P96: at the beginning, however things are moved; ahead of the first step, and behind some.
func TestWhatIsThrownAtTheBeginning(t *testing.T) {
	d := &dice{state: 3211}
	for _, u := range slices.Concat(runVms(34), inMemoryUnits(0, 20)) {
		for range 3 {
			young, old := d.someParts()
			v := impl.VmRun(u, young, old, 0, d.someForced())
			if !equalVms(v, impl.VmNew(u, young, old)) {
				t.Fatalf("in %v behind no step it is %v", u, v)
			}
			mustThrowInOrder(t, u, v)
			for range 4 {
				v = impl.VmForce(u, v, d.roll(4))
				mustThrowInOrder(t, u, v)
			}
			if now := impl.VmRun(u, young, old, 1, []int{d.roll(4)}); now.Steps > 1 {
				t.Fatalf("in %v behind a step it is %v", u, now)
			}
		}
	}
}

// marks says whether what is thrown may be put into.
func marksFaults(u impl.Unit) bool {
	for _, m := range u.Methods {
		for _, i := range m.Code {
			if i.Kind == impl.InsPut && (i.A == 1 || i.A == 4) {
				return true
			}
		}
	}
	return false
}

// P96: as long as nothing is put there, what is thrown tells the same all along a run, wherever it is by then.
func TestWhatIsThrownAllAlong(t *testing.T) {
	d := &dice{state: 3213}
	units := 0
	for _, u := range inMemoryUnits(30, 60) {
		if marksFaults(u) || len(u.Classes) < 2 || u.Classes[1].Super != 0 {
			continue
		}
		units++
		young, old := d.someParts()
		a := vmAsk{machHandOf(u), young, old, d.someForced()}
		for _, v := range a.chain(t) {
			mustThrowInOrder(t, u, v)
		}
	}
	if units < 20 {
		t.Error("too few", units)
	}
}

// forcedAlike are the same ahead of each of so many steps.
func forcedAlike(forced []int, steps int) [][]int {
	head := slices.Clone(forced[:min(steps, len(forced))])
	padded := slices.Concat(head, make([]int, steps-len(head)))
	return [][]int{head, padded, slices.Concat(padded, []int{1}), slices.Concat(padded, []int{2, 1, 2, 2}), slices.Concat(padded, farInts())}
}

// P97: a run that has ended is the same by more steps, and whatever is to be moved then.
func TestRunsThatHaveEnded(t *testing.T) {
	d := &dice{state: 3215}
	var ends [3]int
	short := 0
	for _, u := range slices.Concat(runVms(35), inMemoryUnits(50, 40)) {
		own := machHandOf(u)
		for range 3 {
			young, old := d.someParts()
			a := vmAsk{own, young, old, d.someForced()}
			v := a.run(impl.RunMax)
			ends[v.End]++
			if v.End == impl.EndNot {
				continue
			}
			if v.Short {
				short++
			}
			for steps := v.Steps; steps <= impl.RunMax; steps += 1 + d.roll(20) {
				if more := a.run(steps); !equalVms(more, v) {
					t.Fatalf("in %v behind %d steps it is\n%v, and was\n%v", u, steps, more, v)
				}
			}
			for _, a.forced = range forcedAlike(a.forced, v.Steps) {
				if other := a.run(impl.RunMax); !equalVms(other, v) {
					t.Fatalf("in %v with %v it is\n%v, and was\n%v", u, a.forced, other, v)
				}
			}
		}
	}
	if slices.Min(ends[:]) < 50 || short < 10 {
		t.Error("too few of something", ends, short)
	}
}
