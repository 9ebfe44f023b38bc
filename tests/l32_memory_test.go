package tests

import (
	"reflect"
	"slices"
	"testing"

	"loop.example/entail/impl"
)

// mustRunApart asks for runs of some numbers of steps: no argument is changed, and no answer by writing into another.
func mustRunApart(t *testing.T, u impl.Unit, young int, old int, forced []int, counts ...int) {
	t.Helper()
	u, forced = spareUnit(u), spare(forced, 1)
	wasUnit, was := wholeUnit(u), slices.Clone(forced[:cap(forced)])
	mustStay := func() {
		t.Helper()
		if now := wholeUnit(u); !reflect.DeepEqual(now, wasUnit) || !slices.Equal(forced[:cap(forced)], was) {
			t.Fatalf("%v and %v are %v and %v now", wasUnit, was, now, forced)
		}
	}
	var asks []func() vmAnswer
	for _, steps := range counts {
		asks = append(asks, func() vmAnswer { return vmAnswer{vm: impl.VmRun(u, young, old, steps, forced)} })
	}
	mustAnswerApart(t, asks, mustStay)
	// What is behind the end of forced is not read, either.
	for _, steps := range counts {
		if v := impl.VmRun(u, young, old, steps, forced); !equalVms(v, impl.VmRun(u, young, old, steps, slices.Clone(forced))) {
			t.Fatalf("by what is behind the end of %v it is %v", forced, v)
		}
	}
}

// Each list of a run is memory of its own, spare room included: of no step, of few, of one that has ended, and of all; so it is where there is no such run.
func TestVmRunsAreNewMemory(t *testing.T) {
	d := &dice{state: 3231}
	for _, u := range slices.Concat(runVms(36), inMemoryUnits(90, 20)) {
		young, old := d.someParts()
		mustRunApart(t, u, young, old, d.someForced(), 0, 1, d.roll(60), d.roll(impl.RunMax), impl.RunMax, impl.RunMax+1, -1)
	}
	for _, u := range slices.Concat(unitsThatAreNotOk(), stuckUnits()) {
		mustRunApart(t, u, 6, 30, []int{1, 2}, 0, 1, impl.RunMax)
	}
}

// The same of all machines of some runs, and of what is made of them: also where the machine is given back as it is.
func TestVmStepsAreNewMemory(t *testing.T) {
	d := &dice{state: 3233}
	stays := 0
	for _, u := range inMemoryUnits(110, 8) {
		young, old := d.someParts()
		a := vmAsk{machHandOf(u), young, old, d.someForced()}
		all := a.chain(t)
		for i := 0; i < len(all); i += 1 + d.roll(9) {
			mustAskAlike(t, spareUnit(u), spareVm(all[i]), impl.Mach{})
		}
		last := all[len(all)-1]
		mustAskAlike(t, spareUnit(u), last, impl.Mach{})
		if equalVms(impl.VmStep(u, last), last) {
			stays++
		}
	}
	if stays < 10 {
		t.Error("too few", stays)
	}
}

// At each instruction, with lists of much spare room: what is pushed, said, and called is not written behind the ends.
func TestInstructionsAreNewMemory(t *testing.T) {
	visit := func(h vmHand) { mustAskAlike(t, spareUnit(h.u), spareVm(h.vm()), impl.Mach{}) }
	eachHostVm(78, 3, 3, visit)
	eachTightVm(78, 6, 4, visit)
	eachCaughtVm(78, []int{7, 15, 18, 23}, 3, 3, visit)
}

// What one says, is called, and moves is the same each time.
func TestVmRunsAreTheSameEachTime(t *testing.T) {
	for _, u := range keepingUnits() {
		want := impl.VmRun(u, 9, 40, impl.RunMax, []int{0, 1, 2})
		for range 20 {
			if again := impl.VmRun(u, 9, 40, impl.RunMax, []int{0, 1, 2}); !equalVms(again, want) {
				t.Fatalf("it is %v, and was %v", again, want)
			}
		}
	}
}

// A machine whose lists share memory steps as one whose lists do not.
func TestStepsOfVmsWhoseListsShareMemory(t *testing.T) {
	u, v := sharingVm(t)
	apart := copyVm(v)
	for range 40 {
		next := impl.VmStep(u, v)
		if want := impl.VmStep(u, apart); !equalVms(next, want) || next.Steps != v.Steps+1 {
			t.Fatalf("it is %v, not %v", next, want)
		}
		v, apart = next, copyVm(next)
	}
}
