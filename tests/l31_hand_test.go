package tests

import (
	"slices"

	"loop.example/entail/impl"
)

// vmHand is a machine in a memory told by its things: those that are thrown, its calls and Out lead to them by the order in which they stand in the memory. What is in a local of no type is any number, as a word. The things of m itself do not count.
type vmHand struct {
	machHand
	mem    memHand
	faults []impl.Val
	m      impl.Mach
	short  bool
}

func (h vmHand) copied() vmHand {
	h.mem, h.faults, h.m = h.mem.copied(), slices.Clone(h.faults), copyMach(h.m)
	return h
}

func (h vmHand) numbersOf(list []impl.Val) []int {
	var all []int
	for _, v := range list {
		all = append(all, h.mem.valueIn(v))
	}
	return all
}

func (h vmHand) vm() impl.Vm {
	v := impl.Vm{Mem: h.mem.mem(), Faults: h.numbersOf(h.faults), Said: slices.Clone(h.m.Said), Steps: h.m.Steps, End: h.m.End, Out: h.mem.valueIn(h.m.Out), Short: h.short}
	for _, f := range h.m.Frames {
		v.Calls = append(v.Calls, impl.Call{Method: f.Method, At: f.At, Locals: h.numbersOf(f.Locals), Stack: h.numbersOf(f.Stack)})
	}
	return v
}

// spots are where all values of a machine stand that are in no thing, in order.
func spots(m *impl.Mach) []*impl.Val {
	var all []*impl.Val
	for _, f := range m.Frames {
		all = append(all, valuesOf(heap{roots: f.Locals})...)
		all = append(all, valuesOf(heap{roots: f.Stack})...)
	}
	return append(all, &m.Out)
}

// withoutLoose has the word 0 in each local of no type.
func (h machHand) withoutLoose(m impl.Mach) impl.Mach {
	m = copyMach(m)
	for _, f := range m.Frames {
		for k, t := range h.all[f.Method][f.At].Locals {
			if t == 0 {
				f.Locals[k] = word(0)
			}
		}
	}
	return m
}

// viewByHand is what is seen of a machine in which that is thrown.
func (h machHand) viewByHand(m impl.Mach, thrown []impl.Val) impl.Mach {
	m = h.withoutLoose(m)
	roots := slices.Clone(thrown)
	for _, v := range spots(&m) {
		roots = append(roots, *v)
	}
	graph := graphByHand(heap{m.Objs, roots})
	for i, v := range spots(&m) {
		*v = graph.roots[len(thrown)+i]
	}
	m.Objs = graph.objs
	return m
}

// machViewByHand is MachView.
func (h machHand) machViewByHand(m impl.Mach) impl.Mach {
	if !h.machFits(m) {
		return impl.Mach{}
	}
	return h.viewByHand(m, refs(1, 2, 3, 4, 5, 6, 7))
}

// view is VmView.
func (h vmHand) view() impl.Mach {
	m := copyMach(h.m)
	m.Objs = h.mem.objs
	return h.viewByHand(m, h.faults)
}

// rootSpots are where the roots stand: by what is there, not by its type.
func (h *vmHand) rootSpots() []*impl.Val {
	all := valuesOf(heap{roots: h.faults})
	for _, v := range spots(&h.m) {
		if v.Ref {
			all = append(all, v)
		}
	}
	return all
}

// rooted is the memory with the numbers of things to which the roots lead.
func (h vmHand) rooted() rooted {
	r := rooted{memHand: h.mem}
	for _, v := range h.rootSpots() {
		r.roots = append(r.roots, v.N)
	}
	return r
}

// forced is VmForce, and whether there was room for that.
func (h vmHand) forced(kind int) (vmHand, bool) {
	r, room := h.rooted(), false
	switch kind {
	case 1:
		r, room = r.minor()
	case 2:
		r, room = r.major()
	}
	if !room {
		return h, false
	}
	h = h.copied()
	h.mem = r.memHand
	for i, v := range h.rootSpots() {
		v.N = r.roots[i]
	}
	return h, true
}

// memHandOf is a memory that is ok, by its things.
func memHandOf(cs []impl.Class, m impl.Mem) memHand {
	h := emptyMem(cs, m.Young, len(m.Words)-m.Young)
	h.cards = slices.Clone(m.Cards)
	all, _ := sorts(cs, m)
	number := map[int]int{}
	for i := range m.Words {
		if all[i] == 'b' {
			number[i+1] = len(number) + 1
		}
	}
	for i, n := range m.Words {
		last := len(h.objs) - 1
		switch all[i] {
		case 'b':
			h.objs = append(h.objs, thing(n))
			if i < m.Young {
				h.inYoung++
			}
		case 'w':
			h.objs[last].Vals = append(h.objs[last].Vals, word(n))
		case 'r':
			h.objs[last].Vals = append(h.objs[last].Vals, ref(number[n]))
		}
	}
	return h
}

// valueByType is what a number is where that type is told; false, if it cannot be there.
func (h memHand) valueByType(n int, t int) (impl.Val, bool) {
	switch t {
	case 0:
		return word(n), true
	case 1:
		return word(n), n >= -128 && n <= 127
	}
	return h.mayBe(ref(0), n)
}

func (h memHand) valuesByType(numbers []int, types []int) ([]impl.Val, bool) {
	if len(numbers) > len(types) {
		return nil, false
	}
	var all []impl.Val
	ok := true
	for i, n := range numbers {
		v, may := h.valueByType(n, types[i])
		all, ok = append(all, v), ok && may
	}
	return all, ok
}

func (h vmHand) frameByType(c impl.Call) (impl.Frame, bool) {
	if c.Method < 0 || c.Method >= len(h.all) || c.At < 0 || c.At >= len(h.all[c.Method]) {
		return impl.Frame{}, false
	}
	s := h.all[c.Method][c.At]
	locals, ok := h.mem.valuesByType(c.Locals, s.Locals)
	stack, also := h.mem.valuesByType(c.Stack, s.Stack)
	return frame(c.Method, c.At, locals, stack...), ok && also && len(locals) == len(s.Locals)
}

// readFaults is false, if they are too few, too many, the same, or of other classes.
func (h *vmHand) readFaults(places []int) bool {
	numbers := map[int]bool{}
	for _, at := range places {
		i := slices.Index(h.mem.places(), at)
		if i < 0 || h.mem.objs[i].Class != 1 {
			return false
		}
		numbers[i] = true
		h.faults = append(h.faults, ref(i+1))
	}
	return len(places) == 7 && len(numbers) == 7
}

// readCalls is false, if they are too many, or one is not as it must be.
func (h *vmHand) readCalls(calls []impl.Call) bool {
	for _, c := range calls {
		f, ok := h.frameByType(c)
		if !ok {
			return false
		}
		h.m.Frames = append(h.m.Frames, f)
	}
	return len(calls) <= 4
}

// readOut is false, if it does not go with the end.
func (h *vmHand) readOut(out int) bool {
	switch h.m.End {
	case 0:
		return out == 0
	case 1:
		h.m.Out = word(out)
		return out >= -128 && out <= 127
	case 2:
		i := slices.Index(h.mem.places(), out)
		h.m.Out = ref(i + 1)
		return i >= 0
	}
	return false
}

// vmHandOf is a machine in a memory, by its things; false, if it is not ok: VmOk.
func vmHandOf(own machHand, v impl.Vm) (vmHand, bool) {
	if !own.passed || !memOkByHand(own.u.Classes, v.Mem) {
		return vmHand{}, false
	}
	h := vmHand{machHand: own, mem: memHandOf(own.u.Classes, v.Mem), short: v.Short}
	h.m = impl.Mach{Said: slices.Clone(v.Said), Steps: v.Steps, End: v.End}
	if !h.readFaults(v.Faults) || !h.readCalls(v.Calls) || !h.readOut(v.Out) {
		return vmHand{}, false
	}
	return h, own.machFits(h.view())
}

func copyVm(v impl.Vm) impl.Vm {
	v.Mem, v.Calls = copyMem(v.Mem), slices.Clone(v.Calls)
	v.Faults, v.Said = slices.Clone(v.Faults), slices.Clone(v.Said)
	for i, c := range v.Calls {
		v.Calls[i].Locals, v.Calls[i].Stack = slices.Clone(c.Locals), slices.Clone(c.Stack)
	}
	return v
}

func equalCalls(a impl.Call, b impl.Call) bool {
	return a.Method == b.Method && a.At == b.At && slices.Equal(a.Locals, b.Locals) && slices.Equal(a.Stack, b.Stack)
}

// equalVms takes the empty list and the nil list for the same.
func equalVms(a impl.Vm, b impl.Vm) bool {
	lists := slices.EqualFunc(a.Calls, b.Calls, equalCalls) && slices.Equal(a.Faults, b.Faults) && slices.Equal(a.Said, b.Said)
	return lists && equalMems(a.Mem, b.Mem) && a.Steps == b.Steps && a.End == b.End && a.Out == b.Out && a.Short == b.Short
}

func isNoVm(v impl.Vm) bool {
	return equalVms(v, impl.Vm{})
}
