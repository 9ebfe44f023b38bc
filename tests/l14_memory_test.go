package tests

import (
	"reflect"
	"slices"
	"testing"

	"loop.example/entail/impl"
)

// eachToStep visits units with machines that make a step, that stay, and that are not ok.
func eachToStep(visit func(u impl.Unit, m impl.Mach)) {
	for _, e := range allEdges() {
		u := edgeUnit(e.i)
		for _, stack := range [][]impl.Val{e.takes, filler(4), nil} {
			visit(u, edgeMach(stack...))
			visit(u, withCalls(edgeMach(stack...), impl.FrameMax))
			full := edgeMach(stack...)
			full.Steps = impl.RunMax
			visit(u, full)
			u.Methods[0].Catches = []impl.Catch{{From: 0, To: 3, At: 0, Class: 1}}
		}
	}
	d := &dice{state: 9}
	for _, u := range grownUnits(45, 60) {
		for range 5 {
			visit(u, d.someLooseMach(u))
		}
	}
	eachLeft(visit)
}

// Nothing is written into an argument, or behind its end.
func TestMachinesStayAsTheyAreBehindSteps(t *testing.T) {
	eachToStep(func(u impl.Unit, m impl.Mach) {
		u, m = spareUnit(u), spareMach(m)
		wasUnit, was := wholeUnit(u), wholeMach(m)
		impl.MachStep(u, m)
		mustMachStayWhole(t, u, wasUnit, m, was)
	})
}

// Each list of what is given back is memory of its own, also where the machine stays: writing into it changes no argument, no other list, and no other answer.
func TestStepsAreNewMemory(t *testing.T) {
	eachToStep(func(u impl.Unit, m impl.Mach) {
		m = spareMach(m)
		was := wholeMach(m)
		one, other := impl.MachStep(u, m), impl.MachStep(u, m)
		want := copyMach(one)
		overwriteMach(t, one)
		if now := wholeMach(m); !reflect.DeepEqual(now, was) {
			t.Fatalf("%v is %v now", was, now)
		}
		if !equalMachs(other, want) {
			t.Fatalf("of %v it was %v, and is %v now", m, want, other)
		}
		overwriteMach(t, other)
		if again := impl.MachStep(u, m); !equalMachs(again, want) {
			t.Fatalf("of %v it was %v, and is %v when asked again", m, want, again)
		}
	})
}

// The same of all machines of some runs, so that what was given back is the argument of the next step.
func TestStepsOfStepsAreNewMemory(t *testing.T) {
	for _, u := range runUnits(46, 20) {
		m := impl.MachNew(u)
		for range 60 {
			was := wholeMach(m)
			next := impl.MachStep(u, m)
			overwriteMach(t, impl.MachStep(u, m))
			if now := wholeMach(m); !reflect.DeepEqual(now, was) {
				t.Fatalf("%v is %v now", was, now)
			}
			m = next
		}
	}
}

func TestRunsAreNewMemory(t *testing.T) {
	for _, first := range slices.Concat(runUnits(47, 30), unitsThatAreNotOk()) {
		u := spareUnit(first)
		was := wholeUnit(u)
		for _, steps := range []int{0, 1, 6, 50, impl.RunMax, impl.RunMax + 1} {
			one, other := impl.MachRun(u, steps), impl.MachRun(u, steps)
			want := copyMach(one)
			overwriteMach(t, one)
			if now := wholeUnit(u); !reflect.DeepEqual(now, was) {
				t.Fatalf("%v is %v now", was, now)
			}
			if !equalMachs(other, want) {
				t.Fatalf("of %v it was %v, and is %v now", u, want, other)
			}
			overwriteMach(t, other)
			mustRun(t, u, steps, want)
		}
	}
}

// sharingMach has lists that are the same memory: what is in 8 and 9, in 10 and 11, and both calls' locals and stacks.
func sharingMach(stack ...impl.Val) impl.Mach {
	words, leads := vals(word(1), word(2)), refs(8, 10)
	m := machOf(things(thing(impl.ClassInts, words...), thing(impl.ClassInts, words...), thing(2, leads...), thing(2, leads...)))
	ground := append(slices.Clone(stack), word(spareMark), word(spareMark))[:len(stack)]
	locals := vals(word(3), ref(8), word(5))
	m.Frames = []impl.Frame{frame(0, 1, locals, ground...), frame(0, 1, locals, ground...)}
	m.Frames[0].Stack, m.Frames[1].Stack = ground, ground
	return m
}

// What shares memory in an argument does not in the answer: just the one that is told is another.
func TestStepsOfMachinesWhoseListsShareMemory(t *testing.T) {
	for _, c := range []struct {
		i     impl.Ins
		stack []impl.Val
	}{
		{ins(impl.InsStore, 0), vals(word(9))},
		{ins(impl.InsStore, 2), refs(8)},
		{ins(impl.InsSet, 0), vals(ref(8), word(1), word(9))},
		{ins(impl.InsSet, 0), vals(ref(9), word(0), word(9))},
		{ins(impl.InsPut, 2, 1), vals(ref(10), ref(0))},
		{ins(impl.InsPut, 2, 0), vals(ref(11), ref(0))},
		{ins(impl.InsPush, 7), vals(word(1))},
		{ins(impl.InsDup), vals(word(1))},
		{ins(impl.InsDo, impl.OpAdd), vals(word(1), word(2))},
		{ins(impl.InsDo, impl.OpDiv), vals(word(1), word(0))},
		{ins(impl.InsBack), vals(word(1))},
		{ins(impl.InsCall, 1), vals(word(1), word(2))},
		{ins(impl.InsPop), nil},
	} {
		u, m := edgeUnit(c.i), sharingMach(c.stack...)
		was := wholeMach(m)
		mustStepTo(t, "lists that share", u, m, handOf(u).stepByHand(m))
		overwriteMach(t, impl.MachStep(u, m))
		if now := wholeMach(m); !reflect.DeepEqual(now, was) {
			t.Fatalf("%v is %v now", was, now)
		}
	}
}
