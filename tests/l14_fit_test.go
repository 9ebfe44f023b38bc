package tests

import (
	"slices"
	"testing"

	"loop.example/entail/impl"
)

// fitStep is a machine that fits, and makes a step: its last call, its instruction, and what is behind.
type fitStep struct {
	machHand
	m      impl.Mach
	f      impl.Frame
	i      impl.Ins
	behind impl.Mach
}

// visitFitStep leaves out machines that make no step.
func visitFitStep(h machHand, m impl.Mach, visit func(s fitStep)) {
	if isFull(m) {
		return
	}
	f := copyMach(m).Frames[len(m.Frames)-1]
	visit(fitStep{machHand: h, m: m, f: f, i: h.u.Methods[f.Method].Code[f.At], behind: impl.MachStep(h.u, m)})
}

// eachFitStep visits steps of machines that fit, of all kinds, also of units that grow.
func eachFitStep(seed int, visit func(s fitStep)) {
	try := func(h machHand, m impl.Mach) { visitFitStep(h, m, visit) }
	for kind := impl.InsPush; kind <= impl.InsSay; kind++ {
		eachHostMach(seed, kind, 15, 15, try)
	}
	eachMach(seed, 60, 20, try)
}

// eachFitStepOf visits steps of machines that fit, of one kind.
func eachFitStepOf(seed int, kind int, visit func(s fitStep)) {
	eachHostMach(seed, kind, 80, 15, func(h machHand, m impl.Mach) { visitFitStep(h, m, visit) })
}

// top is so many from the top of the stack ahead, in order.
func (s fitStep) top(count int) []impl.Val {
	return s.f.Stack[len(s.f.Stack)-count:]
}

// below is the stack ahead without so many.
func (s fitStep) below(count int) []impl.Val {
	return slices.Clone(s.f.Stack[:len(s.f.Stack)-count])
}

// throwsThat says whether that is thrown: caught, alone on the stack, or the end.
func (s fitStep) throwsThat(n int) bool {
	if s.behind.End == impl.EndThrown {
		return s.behind.Out == ref(n)
	}
	return s.behind.End == impl.EndNot && slices.Equal(last(&s.behind).Stack, refs(n))
}

// onlyLastIs says whether all is as it was, but for one step more, and the last call, which is that.
func (s fitStep) onlyLastIs(f impl.Frame) bool {
	want := copyMach(s.m)
	want.Steps++
	*last(&want) = f
	return equalMachs(s.behind, want)
}

func (s fitStep) mustBeSo(t *testing.T, so bool) {
	t.Helper()
	if !so {
		t.Fatalf("in %v behind %v of\n%v it is\n%v", s.u, s.i, s.m, s.behind)
	}
}

// P41: what fits does so behind a step, and is not stuck; P40 and P46 hold, too. Just what a first call gives back that is of a method that gives back no word, as none does in a run, is no word, and does not fit.
func TestWhatFitsStaysSo(t *testing.T) {
	noWord := 0
	eachFitStep(22, func(s fitStep) {
		mustMove(t, s.u, s.m, s.behind)
		fits := s.i.Kind != impl.InsBack || len(s.m.Frames) > 1 || s.u.Methods[s.f.Method].Out == impl.TypeInt
		s.mustBeSo(t, impl.MachFits(s.u, s.behind) == fits && s.machFits(s.behind) == fits && s.behind.End != impl.EndStuck)
		if !fits {
			noWord++
		}
	})
	if noWord == 0 || noWord > 100 {
		t.Error("too few, or too many", noWord)
	}
}

// P41: all that is full, or has ended, fits as it did.
func TestWhatFitsAndStays(t *testing.T) {
	count := 0
	eachMach(23, 100, 10, func(h machHand, m impl.Mach) {
		if m.End == impl.EndNot {
			m.Steps = impl.RunMax
		}
		count++
		mustStepTo(t, "it stays", h.u, m, m)
		mustFit(t, "it stays", h.u, impl.MachStep(h.u, m))
	})
	if count < 100 {
		t.Error("too few", count)
	}
}

// P47: what ends a machine is caught by none of its calls, and may be thrown.
func TestWhatIsThrownIsCaughtByNone(t *testing.T) {
	ended, caught := 0, 0
	eachFitStep(24, func(s fitStep) {
		if s.behind.End != impl.EndThrown {
			if s.i.Kind == impl.InsThrow {
				caught++
			}
			return
		}
		ended++
		class := s.behind.Objs[s.behind.Out.N-1].Class
		s.mustBeSo(t, class >= 0 && s.up[class][impl.ClassFail])
		for _, f := range s.m.Frames {
			for _, c := range s.u.Methods[f.Method].Catches {
				s.mustBeSo(t, f.At < c.From || f.At >= c.To || !s.up[class][c.Class])
			}
		}
	})
	if ended < 100 || caught < 50 {
		t.Error("too few of something", ended, caught)
	}
}

// P49.
func TestWhatIsSaid(t *testing.T) {
	said, not := 0, 0
	eachFitStep(25, func(s fitStep) {
		want := slices.Clone(s.m.Said)
		if s.i.Kind == impl.InsSay {
			want = append(want, s.top(1)[0].N)
			said++
			s.mustBeSo(t, !s.top(1)[0].Ref)
		} else {
			not++
		}
		s.mustBeSo(t, slices.Equal(s.behind.Said, want))
	})
	if said < 50 || not < 500 {
		t.Error("too few of something", said, not)
	}
}

// P50.
func TestJumps(t *testing.T) {
	var jumped, on [impl.InsGo + 1]int
	eachFitStep(26, func(s fitStep) {
		if !jumping(s.i.Kind) {
			return
		}
		wants, _ := valueRow(s.i.Kind)
		f := s.f
		f.Stack = s.below(len(wants))
		f.At++
		if s.i.A != f.At && s.behind.Frames[len(s.m.Frames)-1].At == s.i.A || s.i.Kind == impl.InsGo {
			f.At = s.i.A
			jumped[s.i.Kind]++
		} else {
			on[s.i.Kind]++
		}
		s.mustBeSo(t, s.onlyLastIs(f))
	})
	if slices.Min(jumped[impl.InsLess:]) < 20 || slices.Min(on[impl.InsLess:impl.InsGo]) < 20 {
		t.Error("too few of something", jumped, on)
	}
}

// P51.
func TestNewThings(t *testing.T) {
	count := map[int]int{}
	eachFitStepOf(27, impl.InsNew, func(s fitStep) {
		count[s.i.A]++
		s.mustBeSo(t, len(s.behind.Objs) == len(s.m.Objs)+1)
		o := s.behind.Objs[len(s.m.Objs)]
		s.mustBeSo(t, equalThings(o, emptyThing(s.i.A, fieldsOf(s.u.Classes, s.i.A)...)))
		s.mustBeSo(t, slices.Equal(last(&s.behind).Stack, append(s.below(0), ref(len(s.behind.Objs)))))
	})
	if len(count) != 5 {
		t.Error("too few of something", count)
	}
}

// P52.
func TestWordsAreDone(t *testing.T) {
	done, by0 := map[int]int{}, 0
	eachFitStepOf(28, impl.InsDo, func(s fitStep) {
		ab := s.top(2)
		n, ok := impl.IntDo(s.i.A, ab[0].N, ab[1].N)
		if !ok {
			by0++
			s.mustBeSo(t, s.throwsThat(impl.FaultDiv))
			return
		}
		done[s.i.A]++
		f := s.f
		f.At, f.Stack = f.At+1, append(s.below(2), word(n))
		s.mustBeSo(t, s.onlyLastIs(f))
	})
	if done[1] < 50 || done[2] < 50 || done[3] < 50 || done[4] < 50 || by0 < 50 {
		t.Error("too few of something", done, by0)
	}
}

// P53.
func TestWhatIsSent(t *testing.T) {
	called, deep, below, nothing := 0, 0, 0, 0
	eachFitStepOf(29, impl.InsSend, func(s fitStep) {
		given := s.top(1 + len(s.u.Methods[s.called(s.i)].Args))
		switch {
		case given[0].N == 0:
			nothing++
			s.mustBeSo(t, s.throwsThat(impl.FaultNull))
			return
		case len(s.m.Frames) == impl.FrameMax:
			deep++
			s.mustBeSo(t, s.throwsThat(impl.FaultDeep))
			return
		}
		called++
		class := s.m.Objs[given[0].N-1].Class
		if class != s.i.A {
			below++
		}
		number := impl.UnitFind(s.u, class, s.i.B)
		f := s.f
		f.Stack = s.below(len(given))
		want := copyMach(s.m)
		want.Steps++
		*last(&want) = f
		locals := make([]impl.Val, s.u.Methods[number].Locals)
		copy(locals, given)
		want.Frames = append(want.Frames, frame(number, 0, locals))
		s.mustBeSo(t, equalMachs(s.behind, want))
	})
	if called < 50 || deep < 20 || below < 20 || nothing < 50 {
		t.Error("too few of something", called, deep, below, nothing)
	}
}

// P54.
func TestWhatIsGivenBack(t *testing.T) {
	first, above := 0, 0
	eachFitStepOf(30, impl.InsBack, func(s fitStep) {
		want := copyMach(s.m)
		want.Steps++
		want.Frames = want.Frames[:len(want.Frames)-1]
		if len(want.Frames) == 0 {
			first++
			want.End, want.Out = impl.EndDone, s.top(1)[0]
		} else {
			above++
			f := last(&want)
			f.At, f.Stack = f.At+1, append(f.Stack, s.top(1)[0])
		}
		s.mustBeSo(t, equalMachs(s.behind, want))
	})
	if first < 50 || above < 50 {
		t.Error("too few of something", first, above)
	}
}

// P55.
func TestWhatIsPut(t *testing.T) {
	put, nothing := 0, 0
	eachFitStepOf(31, impl.InsPut, func(s fitStep) {
		rx := s.top(2)
		if rx[0].N == 0 {
			nothing++
			s.mustBeSo(t, s.throwsThat(impl.FaultNull))
			s.mustBeSo(t, equalHeaps(heap{objs: s.behind.Objs}, heap{objs: s.m.Objs}))
			return
		}
		put++
		want := copyMach(s.m).Objs
		want[rx[0].N-1].Vals[s.i.B] = rx[1]
		s.mustBeSo(t, equalHeaps(heap{objs: s.behind.Objs}, heap{objs: want}))
		s.mustBeSo(t, slices.Equal(last(&s.behind).Stack, s.below(2)) && last(&s.behind).At == s.f.At+1)
	})
	if put < 200 || nothing < 100 {
		t.Error("too few of something", put, nothing)
	}
}
