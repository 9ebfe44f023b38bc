package tests

import (
	"slices"
	"strings"

	"loop.example/entail/impl"
)

// valueRows is the table of instructions, as a machine sees it: what is on the stack ahead (w a word, r what leads, x anything), and how many are there behind. Of those that call it is not here.
const valueRows = `1 - 1
2 - 1
3 - 1
4 x 0
5 x 0
6 x 2
7 ww 1
8 ww 0
9 ww 0
10 r 0
11 - 0
12 - 1
13 w 1
14 r 1
15 rw 1
16 rwx 0
17 r 1
18 rx 0
19 r 1
22 x 0
23 r 0
24 w 0`

// valueRow is the row of a kind: what is wanted, and how many come.
func valueRow(kind int) (string, int) {
	words := strings.Fields(strings.Split(valueRows, "\n")[rowNumber(kind)])
	return strings.Trim(words[1], "-"), int(words[2][0] - '0')
}

// stepHand is a machine that is ok, at an instruction, and what that takes from the stack.
type stepHand struct {
	hand
	m     impl.Mach
	f     impl.Frame
	i     impl.Ins
	taken []impl.Val
}

func (s stepHand) atEnd(f impl.Frame) bool {
	return f.At == len(s.u.Methods[f.Method].Code)
}

// take is false, if what is wanted is not on the stack.
func (s *stepHand) take() bool {
	wants, comes := "", 0
	if s.i.Kind == 20 || s.i.Kind == 21 {
		called := s.called(s.i)
		if called == -1 {
			return false
		}
		wants = strings.Repeat("r", s.i.Kind-20) + strings.Repeat("x", len(s.u.Methods[called].Args))
	} else {
		wants, comes = valueRow(s.i.Kind)
	}
	left := len(s.f.Stack) - len(wants)
	if left < 0 || left+comes > 4 {
		return false
	}
	s.taken = s.f.Stack[left:]
	for k, letter := range wants {
		if letter == 'w' && s.taken[k].Ref || letter == 'r' && !s.taken[k].Ref {
			return false
		}
	}
	return true
}

// classTaken is the class of what the first that was taken leads to; -3, if it leads nowhere.
func (s stepHand) classTaken() int {
	if len(s.taken) == 0 || !s.taken[0].Ref || s.taken[0].N == 0 {
		return -3
	}
	return s.m.Objs[s.taken[0].N-1].Class
}

// wrongSort says whether the thing is none of those that the instruction wants.
func (s stepHand) wrongSort() bool {
	class := s.classTaken()
	if class == -3 {
		return false
	}
	switch s.i.Kind {
	case impl.InsLen:
		return class >= 0
	case impl.InsAt, impl.InsSet:
		return class != -1-s.i.A
	case impl.InsGet, impl.InsPut, impl.InsSend:
		return class < 0 || !s.up[class][s.i.A]
	case impl.InsThrow:
		return class < 0 || !s.up[class][1]
	}
	return false
}

// noWayBack says whether nothing can be given to the call below.
func (s stepHand) noWayBack() bool {
	if s.i.Kind != impl.InsBack || len(s.m.Frames) == 1 {
		return false
	}
	below := s.m.Frames[len(s.m.Frames)-2]
	return len(below.Stack) == 4 || s.atEnd(below)
}

// thrown is the number of the thing that is thrown; 0, if none is.
func (s stepHand) thrown() int {
	kind, x := s.i.Kind, append(slices.Clone(s.taken), word(0), word(0))
	switch {
	case kind == impl.InsDo && s.i.A == impl.OpDiv && x[1].N == 0:
		return 1
	case slices.Contains([]int{14, 15, 16, 17, 18, 21, 23}, kind) && x[0].N == 0:
		return 2
	case (kind == impl.InsAt || kind == impl.InsSet) && (x[1].N < 0 || x[1].N >= len(s.m.Objs[x[0].N-1].Vals)):
		return 3
	case kind == impl.InsArr && (x[0].N < 0 || x[0].N > 6):
		return 4
	case kind == impl.InsCast && !s.in[typeByHand(s.m, x[0])][8+s.i.A]:
		return 5
	case (kind == impl.InsCall || kind == impl.InsSend) && len(s.m.Frames) == 4:
		return 6
	case kind == impl.InsThrow:
		return x[0].N
	}
	return 0
}

// throwByHand looks for who catches from the last call down; all above go.
func (h hand) throwByHand(m impl.Mach, n int) impl.Mach {
	for k := len(m.Frames) - 1; k >= 0; k-- {
		f := &m.Frames[k]
		for _, c := range h.u.Methods[f.Method].Catches {
			if c.From <= f.At && f.At <= c.To-1 && h.up[m.Objs[n-1].Class][c.Class] {
				f.At, f.Stack = c.At, refs(n)
				m.Frames = m.Frames[:k+1]
				return m
			}
		}
	}
	m.Frames, m.End, m.Out = nil, 2, ref(n)
	return m
}

// emptyThing has nothing in it: in what is told a word is 1.
func emptyThing(class int, types ...int) impl.Obj {
	o := thing(class)
	for _, t := range types {
		v := ref(0)
		if t == 1 {
			v = word(0)
		}
		o.Vals = append(o.Vals, v)
	}
	return o
}

// made is what an instruction makes, or tells, on top of the stack.
func (s stepHand) made(m *impl.Mach) []impl.Val {
	x := s.taken
	switch s.i.Kind {
	case impl.InsPush:
		return vals(word(s.i.A))
	case impl.InsNull:
		return refs(0)
	case impl.InsLoad:
		return vals(s.f.Locals[s.i.A])
	case impl.InsDup:
		return vals(x[0], x[0])
	case impl.InsDo:
		n, _ := impl.IntDo(s.i.A, x[0].N, x[1].N)
		return vals(word(n))
	case impl.InsNew:
		m.Objs = append(m.Objs, emptyThing(s.i.A, fieldsOf(s.u.Classes, s.i.A)...))
		return refs(len(m.Objs))
	case impl.InsArr:
		m.Objs = append(m.Objs, emptyThing(-1-s.i.A, slices.Repeat([]int{1 + s.i.A}, x[0].N)...))
		return refs(len(m.Objs))
	case impl.InsLen:
		return vals(word(len(m.Objs[x[0].N-1].Vals)))
	case impl.InsAt:
		return vals(m.Objs[x[0].N-1].Vals[x[1].N])
	case impl.InsGet:
		return vals(m.Objs[x[0].N-1].Vals[s.i.B])
	case impl.InsCast:
		return vals(x[0])
	}
	return nil
}

// written is what an instruction writes elsewhere than on the stack; places of calls are not among it.
func (s stepHand) written(m *impl.Mach) {
	x := s.taken
	switch s.i.Kind {
	case impl.InsStore:
		m.Frames[len(m.Frames)-1].Locals[s.i.A] = x[0]
	case impl.InsSet:
		m.Objs[x[0].N-1].Vals[x[1].N] = x[2]
	case impl.InsPut:
		m.Objs[x[0].N-1].Vals[s.i.B] = x[1]
	case impl.InsSay:
		m.Said = append(m.Said, x[0].N)
	}
}

// jumped says whether an instruction goes on at A.
func (s stepHand) jumped() bool {
	x := s.taken
	return s.i.Kind == 8 && x[0].N < x[1].N || s.i.Kind == 9 && x[0].N == x[1].N || s.i.Kind == 10 && x[0].N == 0 || s.i.Kind == 11
}

// begun is a call of the method that is asked for, as it begins.
func (s stepHand) begun() impl.Frame {
	number := s.i.A
	if s.i.Kind == impl.InsSend {
		number = findByHand(s.u, s.up, s.classTaken(), s.i.B)
	}
	locals := slices.Clone(s.taken)
	for len(locals) < s.u.Methods[number].Locals {
		locals = append(locals, word(0))
	}
	return frame(number, 0, locals)
}

// backByHand is that the last call is gone, having given back what is told.
func backByHand(m impl.Mach, x impl.Val) impl.Mach {
	m.Frames = m.Frames[:len(m.Frames)-1]
	if len(m.Frames) == 0 {
		m.End, m.Out = 1, x
		return m
	}
	below := &m.Frames[len(m.Frames)-1]
	below.Stack = append(below.Stack, x)
	below.At++
	return m
}

// done is the machine behind an instruction with which nothing goes wrong.
func (s stepHand) done(m impl.Mach) impl.Mach {
	f := &m.Frames[len(m.Frames)-1]
	f.Stack = append(f.Stack[:len(f.Stack)-len(s.taken)], s.made(&m)...)
	s.written(&m)
	switch {
	case s.i.Kind == impl.InsCall || s.i.Kind == impl.InsSend:
		m.Frames = append(m.Frames, s.begun())
	case s.i.Kind == impl.InsBack:
		return backByHand(m, s.taken[0])
	case s.jumped():
		f.At = s.i.A
	default:
		f.At++
	}
	return m
}

// stepByHand is MachStep of a machine that is ok: first whether it is stuck, then what is thrown, then all else.
func (h hand) stepByHand(m impl.Mach) impl.Mach {
	m = copyMach(m)
	if m.End != 0 || m.Steps == 200 || len(m.Said) == 200 || len(m.Objs) == 207 {
		return m
	}
	m.Steps++
	s := stepHand{hand: h, m: copyMach(m), f: copyMach(m).Frames[len(m.Frames)-1]}
	stuck := m
	stuck.End = 3
	if s.atEnd(s.f) {
		return stuck
	}
	s.i = h.u.Methods[s.f.Method].Code[s.f.At]
	if !s.take() || s.wrongSort() || s.noWayBack() {
		return stuck
	}
	if n := s.thrown(); n != 0 {
		return h.throwByHand(m, n)
	}
	return s.done(m)
}

// runByHand is all machines of a run, from the beginning on, each with a step more, till it stays.
func (h hand) runByHand() []impl.Mach {
	all := []impl.Mach{newByHand(h.u)}
	for {
		last := all[len(all)-1]
		next := h.stepByHand(last)
		if equalMachs(last, next) {
			return all
		}
		all = append(all, next)
	}
}
