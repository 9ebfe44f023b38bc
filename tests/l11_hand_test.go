package tests

import (
	"slices"
	"strings"

	"loop.example/entail/impl"
)

func ins(kind int, ab ...int) impl.Ins {
	ab = append(ab, 0, 0)
	return impl.Ins{Kind: kind, A: ab[0], B: ab[1]}
}

func shape(locals []int, stack ...int) impl.Shape {
	return impl.Shape{Any: true, Locals: locals, Stack: stack}
}

func copyOfShape(s impl.Shape) impl.Shape {
	return impl.Shape{Any: s.Any, Locals: slices.Clone(s.Locals), Stack: slices.Clone(s.Stack)}
}

func isNothing(s impl.Shape) bool {
	return !s.Any && len(s.Locals) == 0 && len(s.Stack) == 0
}

// equalShapes takes the empty list and the nil list for the same.
func equalShapes(a impl.Shape, b impl.Shape) bool {
	return a.Any == b.Any && slices.Equal(a.Locals, b.Locals) && slices.Equal(a.Stack, b.Stack)
}

func equalLists(a []impl.Shape, b []impl.Shape) bool {
	return slices.EqualFunc(a, b, equalShapes)
}

// stackRows is the table of instructions, as the document has it: what is on the stack ahead, then what is behind. Of those that call it is not here.
const stackRows = `1 > int
2 > null
3 > local
4 any >
5 any >
6 any > top top
7 int int > int
8 int int >
9 int int >
10 root >
11 >
12 > own
13 int > array
14 arrays > int
15 array int > element
16 array int element >
17 own > field
18 own field >
19 root > own
22 out >
23 fail >
24 int >`

// stackRow is the row of a kind; its words are read anew each time, for a test may go by all of them.
func stackRow(kind int) (ahead []string, behind []string) {
	words := strings.Fields(strings.Split(stackRows, "\n")[rowNumber(kind)])
	cut := slices.Index(words, ">")
	return words[1:cut], words[cut+1:]
}

func rowNumber(kind int) int {
	if kind > impl.InsSend {
		return kind - 3
	}
	return kind - 1
}

// hand is a unit that is ok, and which types are in which.
type hand struct {
	u  impl.Unit
	up [][]bool
	in [][]bool
}

func handOf(u impl.Unit) hand {
	return hand{u: u, up: upByHand(u.Classes), in: inByHand(u.Classes)}
}

func fieldsOf(cs []impl.Class, c int) []int {
	var all []int
	for ; c != -1; c = cs[c].Super {
		all = slices.Concat(cs[c].Fields, all)
	}
	return all
}

// named is the types of which one is meant by a word of the table.
func (h hand) named(word string, m impl.Method, i impl.Ins, s impl.Shape) []int {
	switch word {
	case "int":
		return []int{1}
	case "null":
		return []int{2}
	case "root":
		return []int{8}
	case "fail":
		return []int{9}
	case "any":
		return []int{0}
	case "arrays":
		return []int{3, 4}
	case "array":
		return []int{3 + i.A}
	case "element":
		return []int{1 + 7*i.A}
	case "own":
		return []int{8 + i.A}
	case "field":
		return []int{fieldsOf(h.u.Classes, i.A)[i.B]}
	case "out":
		return []int{m.Out}
	case "local":
		return []int{s.Locals[i.A]}
	case "top":
		return []int{s.Stack[len(s.Stack)-1]}
	}
	panic("no such word: " + word)
}

// called is the method that an instruction calls; -1, if there is none.
func (h hand) called(i impl.Ins) int {
	if i.Kind == impl.InsCall {
		return i.A
	}
	return findByHand(h.u, h.up, i.A, i.B)
}

// wanted is, from the bottom on, of which types one must be in; false, if nobody answers.
func (h hand) wanted(m impl.Method, i impl.Ins, s impl.Shape) ([][]int, bool) {
	var all [][]int
	if i.Kind != impl.InsCall && i.Kind != impl.InsSend {
		ahead, _ := stackRow(i.Kind)
		for _, word := range ahead {
			all = append(all, h.named(word, m, i, s))
		}
		return all, true
	}
	called := h.called(i)
	if called == -1 {
		return nil, false
	}
	if i.Kind == impl.InsSend {
		all = append(all, []int{8 + i.A})
	}
	for _, t := range h.u.Methods[called].Args {
		all = append(all, []int{t})
	}
	return all, true
}

func (h hand) comes(m impl.Method, i impl.Ins, s impl.Shape) []int {
	if i.Kind == impl.InsCall || i.Kind == impl.InsSend {
		return []int{h.u.Methods[h.called(i)].Out}
	}
	var all []int
	_, behind := stackRow(i.Kind)
	for _, word := range behind {
		all = append(all, h.named(word, m, i, s)...)
	}
	return all
}

// step is PassStep, taking one by one from the top.
func (h hand) step(m impl.Method, i impl.Ins, s impl.Shape) (impl.Shape, bool) {
	wanted, ok := h.wanted(m, i, s)
	if !ok || !s.Any || !shapeOkByHand(h.u.Classes, m.Locals, s) {
		return impl.Shape{}, false
	}
	out := copyOfShape(s)
	for k := len(wanted) - 1; k >= 0; k-- {
		if len(out.Stack) == 0 {
			return impl.Shape{}, false
		}
		top := out.Stack[len(out.Stack)-1]
		out.Stack = out.Stack[:len(out.Stack)-1]
		if !slices.ContainsFunc(wanted[k], func(t int) bool { return h.in[top][t] }) {
			return impl.Shape{}, false
		}
	}
	if i.Kind == impl.InsStore {
		out.Locals[i.A] = s.Stack[len(s.Stack)-1]
	}
	for _, t := range h.comes(m, i, s) {
		out.Stack = append(out.Stack, t)
	}
	if len(out.Stack) > 4 || slices.Contains(out.Stack, 0) {
		return impl.Shape{}, false
	}
	return out, true
}

func (h hand) shapeIn(a impl.Shape, b impl.Shape) bool {
	if !a.Any || !b.Any || len(a.Locals) != len(b.Locals) || len(a.Stack) != len(b.Stack) {
		return false
	}
	low, high := slices.Concat(a.Locals, a.Stack), slices.Concat(b.Locals, b.Stack)
	for i := range low {
		if !h.in[low[i]][high[i]] {
			return false
		}
	}
	return true
}

// join is the one type, of all in which both are, that is in the others.
func (h hand) join(a int, b int) int {
	var both []int
	for _, t := range allTypes(h.u.Classes) {
		if h.in[a][t] && h.in[b][t] {
			both = append(both, t)
		}
	}
	i := slices.IndexFunc(both, func(t int) bool {
		return !slices.ContainsFunc(both, func(other int) bool { return !h.in[t][other] })
	})
	return both[i]
}

func (h hand) shapeJoin(a impl.Shape, b impl.Shape) impl.Shape {
	if !a.Any || !b.Any || len(a.Locals) != len(b.Locals) || len(a.Stack) != len(b.Stack) {
		return impl.Shape{}
	}
	out := copyOfShape(a)
	for i, t := range b.Locals {
		out.Locals[i] = h.join(out.Locals[i], t)
	}
	for i, t := range b.Stack {
		out.Stack[i] = h.join(out.Stack[i], t)
		if out.Stack[i] == 0 {
			return impl.Shape{}
		}
	}
	return out
}

func (h hand) start(m impl.Method) impl.Shape {
	s := impl.Shape{Any: true}
	if m.Class != -1 {
		s.Locals = append(s.Locals, 8+m.Class)
	}
	s.Locals = append(s.Locals, m.Args...)
	for len(s.Locals) < m.Locals {
		s.Locals = append(s.Locals, 0)
	}
	return s
}

// way is that one comes to a place in a shape; a jump, or what is caught, wants a shape told there.
type way struct {
	to    int
	s     impl.Shape
	tells bool
}

func goesOn(kind int) bool {
	return !slices.Contains([]int{impl.InsGo, impl.InsBack, impl.InsThrow}, kind)
}

func jumping(kind int) bool {
	return slices.Contains([]int{impl.InsLess, impl.InsSame, impl.InsNil, impl.InsGo}, kind)
}

// caughtWays and stepWays are all ways from a place, in the document's order; false, if the instruction may not stand there.
func caughtWays(m impl.Method, at int, s impl.Shape) []way {
	var all []way
	for _, c := range m.Catches {
		if c.From <= at && at <= c.To-1 {
			all = append(all, way{c.At, shape(s.Locals, 8+c.Class), true})
		}
	}
	return all
}

func (h hand) stepWays(m impl.Method, at int, s impl.Shape) ([]way, bool) {
	i := m.Code[at]
	behind, ok := h.step(m, i, s)
	if !ok {
		return nil, false
	}
	var all []way
	if jumping(i.Kind) {
		all = append(all, way{i.A, behind, true})
	}
	if goesOn(i.Kind) {
		all = append(all, way{at + 1, behind, false})
	}
	return all, true
}

// shapes is PassShapes: first all places have a shape, then all ways are asked at once.
func (h hand) shapes(m impl.Method) ([]impl.Shape, bool) {
	all := make([]impl.Shape, len(m.Code))
	ways := []way{{0, h.start(m), false}}
	for at := range m.Code {
		all[at] = m.Shapes[at]
		if !all[at].Any {
			last := ways[len(ways)-1]
			if last.to != at || last.tells {
				return nil, false
			}
			all[at] = last.s
		}
		more, ok := h.stepWays(m, at, all[at])
		if !ok {
			return nil, false
		}
		ways = slices.Concat(ways, caughtWays(m, at, all[at]), more)
	}
	for _, w := range ways {
		if w.to == len(all) || w.tells && !m.Shapes[w.to].Any || !h.shapeIn(w.s, all[w.to]) {
			return nil, false
		}
	}
	return all, true
}

func (h hand) unitPass() bool {
	for _, m := range h.u.Methods {
		if _, ok := h.shapes(m); !ok {
			return false
		}
	}
	return true
}

// mayTell is the places at which PassInfer may tell something.
func mayTell(m impl.Method) []bool {
	may := make([]bool, len(m.Code)+1)
	for at, i := range m.Code {
		if jumping(i.Kind) {
			may[i.A] = true
		}
		if !goesOn(i.Kind) {
			may[at+1] = true
		}
	}
	for _, c := range m.Catches {
		may[c.At] = true
	}
	return may[:len(m.Code)]
}

// infer is PassInfer, word by word.
func (h hand) infer(m impl.Method) []impl.Shape {
	all := make([]impl.Shape, len(m.Code))
	all[0] = h.start(m)
	for again := true; again; {
		again = false
		for at := range all {
			if !all[at].Any {
				continue
			}
			here := all[at]
			more, _ := h.stepWays(m, at, here)
			for _, w := range slices.Concat(caughtWays(m, at, here), more) {
				if w.to == len(all) {
					continue
				}
				now := w.s
				if all[w.to].Any {
					now = h.shapeJoin(all[w.to], w.s)
				}
				if now.Any && !equalShapes(now, all[w.to]) {
					all[w.to], again = now, true
				}
			}
		}
	}
	for at, may := range mayTell(m) {
		if !may {
			all[at] = impl.Shape{}
		}
	}
	return all
}
