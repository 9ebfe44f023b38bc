package tests

import (
	"math"
	"reflect"
	"slices"
	"testing"

	"loop.example/entail/impl"
)

func spareMach(m impl.Mach) impl.Mach {
	m = copyMach(m)
	m.Objs = spareHeap(heap{objs: m.Objs}).objs
	for i, f := range m.Frames {
		m.Frames[i].Locals, m.Frames[i].Stack = spare(f.Locals, ref(spareMark)), spare(f.Stack, ref(spareMark))
	}
	m.Frames = spare(m.Frames, frame(spareMark, spareMark, refs(spareMark)))
	m.Said = spare(m.Said, spareMark)
	return m
}

// wholeMach is a copy of all that is in the memory of a machine, also behind the ends of its lists.
func wholeMach(m impl.Mach) impl.Mach {
	m.Objs = wholeHeap(heap{objs: m.Objs}).objs
	m.Said = m.Said[:cap(m.Said)]
	m.Frames = slices.Clone(m.Frames[:cap(m.Frames)])
	for i, f := range m.Frames {
		m.Frames[i].Locals, m.Frames[i].Stack = f.Locals[:cap(f.Locals)], f.Stack[:cap(f.Stack)]
	}
	return copyMach(m)
}

// overwriteMach writes a mark of its own into each list of an answer, spare room included, and finds it there behind all others.
func overwriteMach(t *testing.T, m impl.Mach) {
	t.Helper()
	all := heap{objs: m.Objs}
	for _, f := range m.Frames {
		all.objs = append(slices.Clone(all.objs), thing(0, f.Locals...), thing(0, f.Stack...))
	}
	overwrite(t, all)
	for i := range m.Said[:cap(m.Said)] {
		m.Said[:cap(m.Said)][i] = spareMark
	}
	for i := range m.Objs[:cap(m.Objs)] {
		m.Objs[:cap(m.Objs)][i] = thing(spareMark)
	}
	for i := range m.Frames[:cap(m.Frames)] {
		m.Frames[:cap(m.Frames)][i] = frame(spareMark, spareMark, nil)
	}
}

// eachLeft visits units, passed, not passed and not ok, each with a machine that fits it, or does not.
func eachLeft(visit func(u impl.Unit, m impl.Mach)) {
	eachMach(8, 60, 4, func(h machHand, m impl.Mach) {
		visit(h.u, m)
		visit(fullUnit(), m)
		visit(impl.Unit{}, m)
		for _, v := range append(machValues(&m), &m.Out) {
			was := *v
			*v = ref(len(m.Objs) + 1)
			visit(h.u, m)
			*v = was
		}
	})
	for _, u := range unitsThatAreNotOk() {
		visit(u, chain(impl.FrameMax))
		visit(u, impl.Mach{})
	}
}

func mustMachStayWhole(t *testing.T, u impl.Unit, wasUnit impl.Unit, m impl.Mach, was impl.Mach) {
	t.Helper()
	if now := wholeUnit(u); !reflect.DeepEqual(now, wasUnit) {
		t.Fatalf("%v is %v now", wasUnit, now)
	}
	if now := wholeMach(m); !reflect.DeepEqual(now, was) {
		t.Fatalf("%v is %v now", was, now)
	}
}

// Nothing is written into an argument, or behind its end.
func TestMachinesStayAsTheyAre(t *testing.T) {
	eachLeft(func(u impl.Unit, m impl.Mach) {
		u, m = spareUnit(u), spareMach(m)
		wasUnit, was := wholeUnit(u), wholeMach(m)
		ok, fits := impl.MachOk(u, m), impl.MachFits(u, m)
		mustMachStayWhole(t, u, wasUnit, m, was)
		if impl.MachOk(u, m) != ok || impl.MachFits(u, m) != fits {
			t.Fatalf("of %v and %v there is another answer when asked again", u, m)
		}
		impl.MachNew(u)
		mustMachStayWhole(t, u, wasUnit, m, was)
	})
}

// Each list of a new machine is memory of its own: writing into it changes no argument, no other list, and no other machine.
func TestNewMachinesAreNewMemory(t *testing.T) {
	for _, first := range slices.Concat(someUnits(), grownUnits(19, 200), unitsThatAreNotOk()) {
		u := spareUnit(first)
		was := wholeUnit(u)
		one, other := impl.MachNew(u), impl.MachNew(u)
		want := copyMach(one)
		overwriteMach(t, one)
		if !equalMachs(other, want) {
			t.Fatalf("of %v it was %v, and is %v now", u, want, other)
		}
		overwriteMach(t, other)
		if now := wholeUnit(u); !reflect.DeepEqual(now, was) {
			t.Fatalf("%v is %v now", was, now)
		}
		if again := impl.MachNew(u); !equalMachs(again, want) {
			t.Fatalf("of %v it was %v, and is %v when asked again", u, want, again)
		}
	}
}

// oneGroundMach has all values in one memory, lists being pieces of it that share what is in them.
func oneGroundMach() impl.Mach {
	ground := vals(word(1), word(2), word(3), word(4))
	m := impl.Mach{Said: []int{1}}
	for range impl.FaultRoom + 2 {
		m.Objs = append(m.Objs, thing(impl.ClassFail, ground[:1]...))
	}
	m.Frames = []impl.Frame{frame(3, 1, nil, ground[:1]...), frame(3, 2, nil, ground[:2]...)}
	return m
}

func TestMachinesWhoseListsShareMemory(t *testing.T) {
	m := oneGroundMach()
	was := wholeMach(m)
	mustFit(t, "lists that share", callUnit(), m)
	if now := wholeMach(m); !reflect.DeepEqual(now, was) {
		t.Fatalf("%v is %v now", was, now)
	}
}

// Every function answers at every argument: each number of a unit as far as an int can be, with machines of the unit as it was.
func TestMachinesOfUnitsWithOneNumberChanged(t *testing.T) {
	for _, u := range append(someUnits(), callUnit()) {
		machs := []impl.Mach{newByHand(u), chain(impl.FrameMax), waiting(3, 1, word(5)), {}}
		for _, n := range ints(u) {
			was := *n
			for _, *n = range []int{math.MinInt, -1, 0, 1, 2, 4, 12, math.MaxInt} {
				ok := impl.UnitOk(u)
				if m := impl.MachNew(u); ok != (len(m.Frames) == 1) {
					t.Fatalf("MachNew of %v is %v", u, m)
				}
				for _, m := range machs {
					if !ok {
						mustNotBeOk(t, "the unit is not ok", u, m)
					} else {
						mustMachAsByHand(t, machHandOf(u), m)
					}
				}
			}
			*n = was
		}
	}
}
