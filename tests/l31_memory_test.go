package tests

import (
	"reflect"
	"slices"
	"testing"

	"loop.example/entail/impl"
)

func spareVm(v impl.Vm) impl.Vm {
	v = copyVm(v)
	for i, c := range v.Calls {
		v.Calls[i].Locals, v.Calls[i].Stack = spare(c.Locals, spareMark), spare(c.Stack, spareMark)
	}
	v.Mem, v.Calls = spareMem(v.Mem), spare(v.Calls, impl.Call{Method: spareMark, Locals: []int{spareMark}})
	v.Faults, v.Said = spare(v.Faults, spareMark), spare(v.Said, spareMark)
	return v
}

// wholeVm is a copy of all that is in the memory of a machine, also behind the ends of its lists.
func wholeVm(v impl.Vm) impl.Vm {
	v.Calls = slices.Clone(v.Calls[:cap(v.Calls)])
	for i, c := range v.Calls {
		v.Calls[i].Locals, v.Calls[i].Stack = c.Locals[:cap(c.Locals)], c.Stack[:cap(c.Stack)]
	}
	v.Mem = wholeMem(v.Mem)
	v.Faults, v.Said = v.Faults[:cap(v.Faults)], v.Said[:cap(v.Said)]
	return copyVm(v)
}

// numberLists are the lists of numbers of a machine, with their spare room, and those of calls that are gone.
func numberLists(v impl.Vm) [][]int {
	all := [][]int{v.Mem.Words, v.Faults, v.Said}
	for _, c := range v.Calls[:cap(v.Calls)] {
		all = append(all, c.Locals, c.Stack)
	}
	for i, list := range all {
		all[i] = list[:cap(list)]
	}
	return all
}

// overwriteVm writes a mark of its own into each list of an answer, spare room included, and finds it there behind all others.
func overwriteVm(t *testing.T, v impl.Vm) {
	t.Helper()
	lists := numberLists(v)
	for mark, list := range lists {
		for i := range list {
			list[i] = spareMark + mark
		}
	}
	for mark, list := range lists {
		for _, n := range list {
			if n != spareMark+mark {
				t.Fatalf("two lists of %v share memory", v)
			}
		}
	}
	for i, set := range v.Mem.Cards[:cap(v.Mem.Cards)] {
		v.Mem.Cards[:cap(v.Mem.Cards)][i] = !set
	}
	for i := range v.Calls[:cap(v.Calls)] {
		v.Calls[:cap(v.Calls)][i] = impl.Call{Method: spareMark}
	}
}

// vmAnswer is what a function of machines in memories gives back, the parts of others being nothing.
type vmAnswer struct {
	vm    impl.Vm
	mach  impl.Mach
	roots []int
}

func (a vmAnswer) copied() vmAnswer {
	return vmAnswer{copyVm(a.vm), copyMach(a.mach), slices.Clone(a.roots)}
}

func (a vmAnswer) equals(b vmAnswer) bool {
	return equalVms(a.vm, b.vm) && equalMachs(a.mach, b.mach) && slices.Equal(a.roots, b.roots)
}

func (a vmAnswer) overwritten(t *testing.T) {
	t.Helper()
	overwriteVm(t, a.vm)
	overwriteMach(t, a.mach)
	for i := range a.roots[:cap(a.roots)] {
		a.roots[:cap(a.roots)][i] = spareMark
	}
}

// vmAsks ask each function of a machine in a memory, and of one with room for everything: also where nothing is moved, and nothing changed.
func vmAsks(u impl.Unit, v impl.Vm, m impl.Mach) []func() vmAnswer {
	asks := []func() vmAnswer{
		func() vmAnswer { impl.VmOk(u, v); return vmAnswer{} },
		func() vmAnswer { return vmAnswer{roots: impl.VmRoots(u, v)} },
		func() vmAnswer { return vmAnswer{mach: impl.VmView(u, v)} },
		func() vmAnswer { return vmAnswer{mach: impl.MachView(u, m)} },
		func() vmAnswer { return vmAnswer{vm: impl.VmNew(u, 3, 20)} },
		func() vmAnswer { return vmAnswer{vm: impl.VmStep(u, v)} },
	}
	for _, steps := range []int{0, 9} {
		asks = append(asks, func() vmAnswer { return vmAnswer{vm: impl.VmRun(u, 3, 20, steps, v.Faults)} })
	}
	for kind := range 4 {
		asks = append(asks, func() vmAnswer { return vmAnswer{vm: impl.VmForce(u, v, kind)} })
	}
	return asks
}

// mustAskAlike asks everything: no argument is changed, and no answer by writing into another.
func mustAskAlike(t *testing.T, u impl.Unit, v impl.Vm, m impl.Mach) {
	t.Helper()
	wasUnit, wasVm, wasMach := wholeUnit(u), wholeVm(v), wholeMach(m)
	mustStay := func() {
		t.Helper()
		if now := wholeVm(v); !reflect.DeepEqual(now, wasVm) {
			t.Fatalf("%v is %v now", wasVm, now)
		}
		mustMachStayWhole(t, u, wasUnit, m, wasMach)
	}
	mustAnswerApart(t, vmAsks(u, v, m), mustStay)
}

// Nothing is written into an argument, or behind its end; each list of an answer is memory of its own, spare room included.
func TestVmsAreNewMemory(t *testing.T) {
	visit := func(h vmHand) {
		m := copyMach(h.view())
		mustAskAlike(t, spareUnit(h.u), spareVm(h.vm()), spareMach(withCircle(m, impl.FaultRoom, 2)))
		mustAskAlike(t, h.u, h.vm(), m)
	}
	eachVm(61, 40, 4, visit)
	eachHostVm(61, 1, 3, visit)
}

// The same of what is not ok.
func TestVmsThatAreNotOkStayAsTheyAre(t *testing.T) {
	for _, u := range slices.Concat(unitsThatAreNotOk(), []impl.Unit{{}, callUnit(), fullUnit()}) {
		for _, v := range vmsToTry() {
			mustAskAlike(t, spareUnit(u), spareVm(v), spareMach(chain(3)))
		}
	}
	for _, mem := range spoiltMems() {
		v := newVmByHand(callUnit(), 6, 30)
		v.Mem = mem
		mustAskAlike(t, callUnit(), spareVm(v), impl.Mach{})
	}
}

// What was given back is the argument of the next: it stays as it is, whatever becomes of that.
func TestVmsOfVmsAreNewMemory(t *testing.T) {
	eachVm(62, 30, 4, func(h vmHand) {
		v := h.vm()
		for _, kind := range []int{0, 1, 2, 3} {
			next := impl.VmForce(h.u, v, kind)
			mustAskAlike(t, h.u, next, impl.VmView(h.u, next))
			v = next
		}
	})
}

// sharingVm has all numbers in one memory, its lists being pieces of it, some of them the same.
func sharingVm(t *testing.T) (impl.Unit, impl.Vm) {
	t.Helper()
	u, v := pairVm(t)
	v.Calls[0].Stack, v.Calls[1] = []int{32, 27}, impl.Call{Method: 1, At: 1, Locals: []int{36}, Stack: []int{27}}
	ground := slices.Concat(v.Mem.Words, v.Faults, []int{5, 32, 27, 36})
	words, faults := len(v.Mem.Words), len(v.Mem.Words)+7
	v.Mem.Words, v.Faults = ground[:words], ground[words:faults]
	v.Calls[0].Locals, v.Calls[0].Stack = ground[faults:faults+1], ground[faults+1:faults+3]
	v.Calls[1].Locals, v.Calls[1].Stack = ground[faults+3:], ground[faults+2:faults+3]
	v.Said = v.Faults
	return u, v
}

func TestVmsWhoseListsShareMemory(t *testing.T) {
	u, v := sharingVm(t)
	apart := copyVm(v)
	if !mustVmAsByHand(t, machHandOf(u), apart) {
		t.Fatal(apart)
	}
	mustAskAlike(t, u, v, impl.VmView(u, v))
	for i, ask := range vmAsks(u, v, chain(2)) {
		if one, want := ask(), vmAsks(u, apart, chain(2))[i](); !one.equals(want) {
			t.Fatalf("of lists that share it is %v, not %v", one, want)
		}
	}
}

// The same of calls whose lists are the same memory, in a machine with room for everything.
func TestMachViewsWhoseListsShareMemory(t *testing.T) {
	u := placeUnit([]int{impl.TypeNone, impl.TypeClass}, impl.TypeClass, impl.TypeClass)
	ground := refs(8, 10, 9)
	m := machOf(things(thing(0), thing(impl.ClassRefs, ground...), thing(impl.ClassRefs, ground...)), frame(0, 2, ground[:2], ground[1:]...))
	apart := copyMach(m)
	mustMachViewAs(t, machHandOf(u), m)
	mustAskAlike(t, u, impl.Vm{}, m)
	if view := impl.MachView(u, m); !equalMachs(view, impl.MachView(u, apart)) || len(view.Objs) != impl.FaultRoom+3 || view.Frames[0].Locals[1] != ref(8) {
		t.Error(view)
	}
}

// What is answered is the same each time.
func TestVmsAreTheSameEachTime(t *testing.T) {
	d := &dice{state: 67}
	own := machHandOf(pairUnit())
	all := own.runByHand()
	h, _ := d.laidIn(own, all[20], 40, 60)
	for _, ask := range vmAsks(h.u, h.vm(), all[20]) {
		want := ask()
		for range 200 {
			if again := ask(); !again.equals(want) {
				t.Fatalf("it is %v, and was %v", again, want)
			}
		}
	}
}
