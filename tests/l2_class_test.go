package tests

import (
	"math"
	"slices"
	"testing"

	"loop.example/entail/impl"
)

// noPlaces are classes, and types, that are none in any list of classes.
func noPlaces() []int {
	return []int{math.MinInt, math.MinInt + 1, math.MinInt + impl.TypeClass, -256, -9, -8, -2, -1, 5 + impl.TypeClass, 256, 1 << 32, 1<<32 + 1, math.MaxInt - impl.TypeClass, math.MaxInt - 1, math.MaxInt}
}

func noClasses(cs []impl.Class) []int {
	return append(noPlaces(), len(cs), len(cs)+1)
}

func noTypes(cs []impl.Class) []int {
	return append(noPlaces(), impl.TypeRefs+1, impl.TypeRefs+2, impl.TypeRefs+3, impl.TypeClass+len(cs), impl.TypeClass+len(cs)+1)
}

func allTypes(cs []impl.Class) []int {
	ts := []int{impl.TypeNone, impl.TypeInt, impl.TypeNull, impl.TypeInts, impl.TypeRefs}
	for c := range cs {
		ts = append(ts, impl.TypeClass+c)
	}
	return ts
}

// ownFields takes turns, so that all sorts of fields come up at all places: of the class itself, of one behind it, of arrays, and none.
func ownFields(turn int, c int, count int) []int {
	switch turn % 6 {
	case 0:
		return nil
	case 1:
		return []int{impl.TypeInt}
	case 2:
		return []int{impl.TypeInts, impl.TypeRefs}
	case 3:
		return []int{impl.TypeClass + c, impl.TypeInt}
	case 4:
		return []int{impl.TypeClass + count - 1, impl.TypeClass + impl.ClassFail}
	}
	return []int{impl.TypeClass + impl.ClassRoot}
}

func withClass(cs []impl.Class, super int, fields []int) []impl.Class {
	return append(copyClasses(cs), impl.Class{Super: super, Fields: fields})
}

func copyClasses(cs []impl.Class) []impl.Class {
	var out []impl.Class
	for _, c := range cs {
		out = append(out, impl.Class{Super: c.Super, Fields: slices.Clone(c.Fields)})
	}
	return out
}

func twoClasses() []impl.Class {
	return []impl.Class{{Super: -1}, {Super: impl.ClassRoot, Fields: []int{impl.TypeInt}}}
}

// everyTree is all ways in which count classes can stand below each other, with fields of the turn.
func everyTree(count int, turn int) [][]impl.Class {
	trees := [][]impl.Class{twoClasses()}
	for c := 2; c < count; c++ {
		var longer [][]impl.Class
		for _, cs := range trees {
			for super := range c {
				longer = append(longer, withClass(cs, super, ownFields(turn+c+super, c, count)))
			}
		}
		trees = longer
	}
	return trees
}

func everyClasses() [][]impl.Class {
	var all [][]impl.Class
	for count := 2; count <= impl.ClassMax; count++ {
		for turn := range 6 {
			all = append(all, everyTree(count, turn)...)
		}
	}
	return all
}

// closed adds what follows by going on from one to the next, so that it shares nothing with how the program goes up.
func closed(in [][]bool) [][]bool {
	for k := range in {
		for i := range in {
			for j := range in {
				in[i][j] = in[i][j] || in[i][k] && in[k][j]
			}
		}
	}
	return in
}

func diagonal(n int) [][]bool {
	in := make([][]bool, n)
	for i := range in {
		in[i] = make([]bool, n)
		in[i][i] = true
	}
	return in
}

func upByHand(cs []impl.Class) [][]bool {
	in := diagonal(len(cs))
	for c := 1; c < len(cs); c++ {
		in[c][cs[c].Super] = true
	}
	return closed(in)
}

func inByHand(cs []impl.Class) [][]bool {
	in := diagonal(impl.TypeClass + len(cs))
	for _, t := range allTypes(cs) {
		in[t][impl.TypeNone] = true
	}
	for c := 1; c < len(cs); c++ {
		in[impl.TypeClass+c][impl.TypeClass+cs[c].Super] = true
	}
	for c := range cs {
		in[impl.TypeNull][impl.TypeClass+c] = true
	}
	for _, t := range []int{impl.TypeInts, impl.TypeRefs} {
		in[impl.TypeNull][t] = true
		in[t][impl.TypeClass+impl.ClassRoot] = true
	}
	return closed(in)
}

func TestLimitsOfClasses(t *testing.T) {
	if impl.ClassMax != 5 || impl.FieldMax != 2 || impl.ClassRoot != 0 || impl.ClassFail != 1 {
		t.Error("classes are not so many, or the first ones not so")
	}
	if impl.TypeNone != 0 || impl.TypeInt != 1 || impl.TypeNull != 2 || impl.TypeInts != 3 || impl.TypeRefs != 4 || impl.TypeClass != 8 {
		t.Error("types are not these numbers")
	}
}

func TestClassesThatAreOk(t *testing.T) {
	n := impl.TypeClass
	for _, cs := range [][]impl.Class{
		twoClasses(),
		{{Super: -1, Fields: []int{}}, {Super: 0, Fields: []int{1}}},
		withClass(twoClasses(), 0, nil),
		withClass(twoClasses(), 1, []int{}),
		withClass(twoClasses(), 1, []int{1, 1}),
		withClass(twoClasses(), 0, []int{3, 4}),
		withClass(twoClasses(), 0, []int{n, n + 1}),
		withClass(twoClasses(), 0, []int{n + 2, n + 2}),
		withClass(withClass(withClass(twoClasses(), 0, []int{n + 4, n + 3}), 2, []int{n + 4}), 3, []int{n + 4, n + 3}),
		withClass(withClass(withClass(twoClasses(), 1, nil), 1, nil), 1, nil),
	} {
		if !impl.ClassesOk(cs) {
			t.Errorf("%v are not ok", cs)
		}
	}
	for _, cs := range everyClasses() {
		if !impl.ClassesOk(cs) {
			t.Errorf("%v are not ok", cs)
		}
	}
}

func spoiltFirstClasses() [][]impl.Class {
	var all [][]impl.Class
	for _, more := range []int{0, 1, 3} {
		spoil := func(how func(cs []impl.Class)) {
			cs := twoClasses()
			for range more {
				cs = withClass(cs, len(cs)-1, []int{impl.TypeInt})
			}
			how(cs)
			all = append(all, cs)
		}
		for _, super := range []int{math.MinInt, -2, 0, 1, 2, 5, math.MaxInt} {
			spoil(func(cs []impl.Class) { cs[impl.ClassRoot].Super = super })
		}
		for _, super := range []int{math.MinInt, -2, -1, 1, 2, 5, math.MaxInt} {
			spoil(func(cs []impl.Class) { cs[impl.ClassFail].Super = super })
		}
		for _, fields := range [][]int{{1}, {0}, {8}, {1, 1}} {
			spoil(func(cs []impl.Class) { cs[impl.ClassRoot].Fields = fields })
		}
		for _, fields := range [][]int{nil, {}, {0}, {2}, {3}, {4}, {5}, {8}, {9}, {-1}, {1, 1}, {1, 3}, {1, 0}, {math.MaxInt}} {
			spoil(func(cs []impl.Class) { cs[impl.ClassFail].Fields = fields })
		}
	}
	return all
}

func spoiltOtherClasses() [][]impl.Class {
	var all [][]impl.Class
	for c := 2; c < impl.ClassMax; c++ {
		for count := c + 1; count <= impl.ClassMax; count++ {
			spoil := func(super int, fields []int) {
				cs := copyClasses(everyTree(count, 1)[0])
				cs[c] = impl.Class{Super: super, Fields: fields}
				all = append(all, cs)
			}
			for super := c; super <= impl.ClassMax; super++ {
				spoil(super, nil)
			}
			for _, super := range []int{math.MinInt, -2, -1, math.MaxInt} {
				spoil(super, nil)
			}
			wrong := append(noTypes(everyTree(count, 1)[0]), impl.TypeNone, impl.TypeNull)
			for _, t := range wrong {
				spoil(0, []int{t})
				spoil(0, []int{t, impl.TypeInt})
				spoil(0, []int{impl.TypeInt, t})
			}
			spoil(0, []int{1, 1, 1})
			spoil(0, []int{1, 3, 4, 8})
		}
	}
	return all
}

// spoiltClasses are not ok, each in one way.
func spoiltClasses() [][]impl.Class {
	all := [][]impl.Class{nil, {}, {{Super: -1}}, {{Super: 0, Fields: []int{1}}}, {{}, {}}, make([]impl.Class, impl.ClassMax)}
	for _, cs := range everyTree(impl.ClassMax, 0) {
		more := withClass(cs, 0, nil)
		all = append(all, more, withClass(more, 5, nil))
	}
	all = append(all, spoiltFirstClasses()...)
	return append(all, spoiltOtherClasses()...)
}

func TestClassesThatAreNotOk(t *testing.T) {
	for _, cs := range spoiltClasses() {
		if impl.ClassesOk(cs) {
			t.Errorf("%v are ok", cs)
		}
	}
}

// P4 to P10: of classes that are not ok there is one answer, also where one would come from an endless way up, or from no class.
func TestNothingOfClassesThatAreNotOk(t *testing.T) {
	for _, cs := range spoiltClasses() {
		places := append(noPlaces(), 0, 1, 2, 3, 4, 5, 6, 7, 8, 9, 10, 11, 12)
		for _, a := range places {
			if impl.TypeOk(cs, a) {
				t.Fatalf("TypeOk(%v, %d)", cs, a)
			}
			if fields := impl.ClassFields(cs, a); len(fields) != 0 {
				t.Fatalf("ClassFields(%v, %d) is %v", cs, a, fields)
			}
			for _, b := range places {
				mustNotJoin(t, cs, a, b)
				mustNotJoinTypes(t, cs, a, b)
			}
		}
	}
}

func mustNotJoin(t *testing.T, cs []impl.Class, a int, b int) {
	t.Helper()
	if impl.ClassUp(cs, a, b) {
		t.Fatalf("ClassUp(%v, %d, %d)", cs, a, b)
	}
	if c := impl.ClassJoin(cs, a, b); c != -1 {
		t.Fatalf("ClassJoin(%v, %d, %d) is %d", cs, a, b, c)
	}
}

func mustNotJoinTypes(t *testing.T, cs []impl.Class, a int, b int) {
	t.Helper()
	if impl.TypeIn(cs, a, b) {
		t.Fatalf("TypeIn(%v, %d, %d)", cs, a, b)
	}
	if n := impl.TypeJoin(cs, a, b); n != impl.TypeNone {
		t.Fatalf("TypeJoin(%v, %d, %d) is %d", cs, a, b, n)
	}
}

// P4 to P7: no such class, whichever of both it is.
func TestNoSuchClass(t *testing.T) {
	for _, cs := range everyClasses() {
		for _, no := range noClasses(cs) {
			for c := range cs {
				mustNotJoin(t, cs, no, c)
				mustNotJoin(t, cs, c, no)
			}
			mustNotJoin(t, cs, no, no)
			if fields := impl.ClassFields(cs, no); len(fields) != 0 {
				t.Fatalf("ClassFields(%v, %d) is %v", cs, no, fields)
			}
		}
	}
}

// P8 to P10: no such type, whichever of both it is; not even in itself, or in none.
func TestNoSuchType(t *testing.T) {
	for _, cs := range everyClasses() {
		for _, no := range noTypes(cs) {
			if impl.TypeOk(cs, no) {
				t.Fatalf("TypeOk(%v, %d)", cs, no)
			}
			for _, n := range allTypes(cs) {
				mustNotJoinTypes(t, cs, no, n)
				mustNotJoinTypes(t, cs, n, no)
			}
			mustNotJoinTypes(t, cs, no, no)
		}
	}
}

func TestTypesThatAreOk(t *testing.T) {
	for _, cs := range everyClasses() {
		for _, n := range allTypes(cs) {
			if !impl.TypeOk(cs, n) {
				t.Fatalf("%d is no type of %v", n, cs)
			}
		}
	}
}

// knownClasses: 2 below the root, 3 below 2, 4 below what is thrown.
func knownClasses() []impl.Class {
	return []impl.Class{
		{Super: -1},
		{Super: 0, Fields: []int{impl.TypeInt}},
		{Super: 0, Fields: []int{impl.TypeInts, impl.TypeClass + 3}},
		{Super: 2, Fields: []int{impl.TypeRefs}},
		{Super: 1, Fields: []int{impl.TypeClass, impl.TypeInt}},
	}
}

// P4, P6, P7.
func TestKnownClasses(t *testing.T) {
	cs := knownClasses()
	for _, pair := range [][2]int{{0, 0}, {1, 1}, {2, 2}, {3, 3}, {4, 4}, {1, 0}, {2, 0}, {3, 0}, {4, 0}, {3, 2}, {4, 1}} {
		if !impl.ClassUp(cs, pair[0], pair[1]) {
			t.Errorf("%d is not below %d", pair[0], pair[1])
		}
	}
	for _, pair := range [][2]int{{0, 1}, {0, 4}, {1, 2}, {2, 1}, {2, 3}, {3, 1}, {1, 4}, {4, 2}, {4, 3}, {3, 4}} {
		if impl.ClassUp(cs, pair[0], pair[1]) {
			t.Errorf("%d is below %d", pair[0], pair[1])
		}
	}
	for c, fields := range [][]int{{}, {1}, {3, 11}, {3, 11, 4}, {1, 8, 1}} {
		if got := impl.ClassFields(cs, c); !slices.Equal(got, fields) {
			t.Errorf("fields of %d are %v, not %v", c, got, fields)
		}
	}
	for _, three := range [][3]int{{0, 0, 0}, {3, 3, 3}, {3, 2, 2}, {3, 4, 0}, {4, 1, 1}, {1, 2, 0}, {0, 3, 0}} {
		if c := impl.ClassJoin(cs, three[0], three[1]); c != three[2] {
			t.Errorf("ClassJoin of %d and %d is %d, not %d", three[0], three[1], c, three[2])
		}
	}
}

// P8, P9, P10.
func TestKnownTypes(t *testing.T) {
	cs := knownClasses()
	root, fail := impl.TypeClass+impl.ClassRoot, impl.TypeClass+impl.ClassFail
	for _, three := range [][3]int{
		{impl.TypeNone, impl.TypeNone, impl.TypeNone}, {impl.TypeNone, impl.TypeNull, impl.TypeNone},
		{impl.TypeInt, impl.TypeInt, impl.TypeInt}, {impl.TypeInt, impl.TypeNull, impl.TypeNone}, {impl.TypeInt, impl.TypeInts, impl.TypeNone},
		{impl.TypeInt, root, impl.TypeNone}, {impl.TypeInt, 11, impl.TypeNone}, {impl.TypeNull, impl.TypeNull, impl.TypeNull},
		{impl.TypeNull, impl.TypeInts, impl.TypeInts}, {impl.TypeNull, impl.TypeRefs, impl.TypeRefs}, {impl.TypeNull, root, root}, {impl.TypeNull, 12, 12},
		{impl.TypeInts, impl.TypeInts, impl.TypeInts}, {impl.TypeInts, impl.TypeRefs, root}, {impl.TypeInts, root, root}, {impl.TypeRefs, fail, root}, {impl.TypeRefs, 11, root},
		{11, 10, 10}, {11, 12, root}, {12, fail, fail}, {11, 11, 11},
	} {
		if n := impl.TypeJoin(cs, three[0], three[1]); n != three[2] {
			t.Errorf("TypeJoin of %d and %d is %d, not %d", three[0], three[1], n, three[2])
		}
	}
	if impl.TypeIn(cs, impl.TypeNone, impl.TypeInt) || impl.TypeIn(cs, impl.TypeInts, impl.TypeRefs) || impl.TypeIn(cs, root, impl.TypeInts) || impl.TypeIn(cs, root, impl.TypeNull) || impl.TypeIn(cs, 11, 12) {
		t.Error("what is in no such type is in it")
	}
}

// P4, P5.
func TestClassUpByHand(t *testing.T) {
	for _, cs := range everyClasses() {
		up := upByHand(cs)
		for a := range cs {
			for b := range cs {
				if impl.ClassUp(cs, a, b) != up[a][b] {
					t.Fatalf("ClassUp(%v, %d, %d) is %v", cs, a, b, !up[a][b])
				}
			}
		}
	}
}

// P4.
func TestClassUpIsByTheOneAbove(t *testing.T) {
	for _, cs := range everyClasses() {
		for a := range cs {
			for b := range cs {
				want := a == b || a != impl.ClassRoot && impl.ClassUp(cs, cs[a].Super, b)
				if impl.ClassUp(cs, a, b) != want {
					t.Fatalf("ClassUp(%v, %d, %d) is not %v", cs, a, b, want)
				}
			}
		}
	}
}

// P5.
func TestClassesAreInOrder(t *testing.T) {
	for _, cs := range everyClasses() {
		for a := range cs {
			if !impl.ClassUp(cs, a, a) || !impl.ClassUp(cs, a, impl.ClassRoot) {
				t.Fatalf("%d is not below itself, or the root, in %v", a, cs)
			}
			for b := range cs {
				if a != b && impl.ClassUp(cs, a, b) && impl.ClassUp(cs, b, a) {
					t.Fatalf("%d and %d are below each other in %v", a, b, cs)
				}
				for c := range cs {
					if impl.ClassUp(cs, a, b) && impl.ClassUp(cs, b, c) && !impl.ClassUp(cs, a, c) {
						t.Fatalf("%d, %d, %d: the first is not below the third in %v", a, b, c, cs)
					}
				}
			}
		}
	}
}

// P6.
func TestFieldsAreThoseAboveThenItsOwn(t *testing.T) {
	for _, cs := range everyClasses() {
		for c := range cs {
			var want []int
			if c != impl.ClassRoot {
				want = append(impl.ClassFields(cs, cs[c].Super), cs[c].Fields...)
			}
			if got := impl.ClassFields(cs, c); !slices.Equal(got, want) {
				t.Fatalf("ClassFields(%v, %d) is %v, not %v", cs, c, got, want)
			}
		}
	}
}

// P6: the most that a class can have.
func TestMostFields(t *testing.T) {
	cs := twoClasses()
	want := []int{impl.TypeInt}
	for c := 2; c < impl.ClassMax; c++ {
		cs = withClass(cs, c-1, []int{impl.TypeRefs, impl.TypeClass + c})
		want = append(want, impl.TypeRefs, impl.TypeClass+c)
	}
	if got := impl.ClassFields(cs, impl.ClassMax-1); !slices.Equal(got, want) {
		t.Errorf("fields are %v, not %v", got, want)
	}
}

// P7.
func TestClassJoinIsTheNearest(t *testing.T) {
	for _, cs := range everyClasses() {
		for a := range cs {
			for b := range cs {
				join := impl.ClassJoin(cs, a, b)
				if !impl.ClassUp(cs, a, join) || !impl.ClassUp(cs, b, join) {
					t.Fatalf("%d or %d is not below %d in %v", a, b, join, cs)
				}
				if impl.ClassJoin(cs, b, a) != join {
					t.Fatalf("ClassJoin of %d and %d differs by their order in %v", a, b, cs)
				}
				for c := range cs {
					if impl.ClassUp(cs, a, c) && impl.ClassUp(cs, b, c) && !impl.ClassUp(cs, join, c) {
						t.Fatalf("%d is nearer to %d and %d than %d in %v", c, a, b, join, cs)
					}
				}
			}
		}
	}
}

// P8, P9.
func TestTypeInByHand(t *testing.T) {
	for _, cs := range everyClasses() {
		in := inByHand(cs)
		for _, a := range allTypes(cs) {
			for _, b := range allTypes(cs) {
				if impl.TypeIn(cs, a, b) != in[a][b] {
					t.Fatalf("TypeIn(%v, %d, %d) is %v", cs, a, b, !in[a][b])
				}
			}
		}
	}
}

// P8.
func TestTypesAreInOrder(t *testing.T) {
	for _, cs := range everyClasses() {
		types := allTypes(cs)
		for _, a := range types {
			if !impl.TypeIn(cs, a, a) || !impl.TypeIn(cs, a, impl.TypeNone) {
				t.Fatalf("%d is not in itself, or in none, in %v", a, cs)
			}
			for _, b := range types {
				if a != b && impl.TypeIn(cs, a, b) && impl.TypeIn(cs, b, a) {
					t.Fatalf("%d and %d are in each other in %v", a, b, cs)
				}
				for _, c := range types {
					if impl.TypeIn(cs, a, b) && impl.TypeIn(cs, b, c) && !impl.TypeIn(cs, a, c) {
						t.Fatalf("%d, %d, %d: the first is not in the third in %v", a, b, c, cs)
					}
				}
			}
		}
	}
}

// P9.
func TestTypesOfClassesAndArrays(t *testing.T) {
	for _, cs := range everyClasses() {
		for a := range cs {
			for b := range cs {
				if impl.TypeIn(cs, impl.TypeClass+a, impl.TypeClass+b) != impl.ClassUp(cs, a, b) {
					t.Fatalf("types of %d and %d are not as the classes in %v", a, b, cs)
				}
			}
			for _, array := range []int{impl.TypeInts, impl.TypeRefs} {
				if impl.TypeIn(cs, array, impl.TypeClass+a) != (a == impl.ClassRoot) || impl.TypeIn(cs, impl.TypeClass+a, array) {
					t.Fatalf("the array %d and class %d in %v", array, a, cs)
				}
			}
		}
		for _, n := range allTypes(cs) {
			if impl.TypeIn(cs, impl.TypeNull, n) != (n != impl.TypeInt) {
				t.Fatalf("what is nothing, and %d, in %v", n, cs)
			}
			if impl.TypeIn(cs, n, impl.TypeNull) != (n == impl.TypeNull) {
				t.Fatalf("%d, and what is nothing, in %v", n, cs)
			}
		}
	}
}

// P10.
func TestTypeJoinIsTheNearest(t *testing.T) {
	for _, cs := range everyClasses() {
		types := allTypes(cs)
		for _, a := range types {
			for _, b := range types {
				join := impl.TypeJoin(cs, a, b)
				if !impl.TypeIn(cs, a, join) || !impl.TypeIn(cs, b, join) {
					t.Fatalf("%d or %d is not in %d in %v", a, b, join, cs)
				}
				if impl.TypeJoin(cs, b, a) != join {
					t.Fatalf("TypeJoin of %d and %d differs by their order in %v", a, b, cs)
				}
				for _, c := range types {
					if impl.TypeIn(cs, a, c) && impl.TypeIn(cs, b, c) && !impl.TypeIn(cs, join, c) {
						t.Fatalf("%d is nearer to %d and %d than %d in %v", c, a, b, join, cs)
					}
				}
			}
		}
	}
}

// P11.
func TestAClassMoreChangesNothing(t *testing.T) {
	for _, cs := range everyClasses() {
		for super := range cs {
			more := withClass(cs, super, ownFields(super, len(cs), len(cs)+1))
			if len(cs) == impl.ClassMax {
				if impl.ClassesOk(more) {
					t.Fatalf("%v are too many", more)
				}
				continue
			}
			mustBeAsAhead(t, cs, more)
		}
	}
}

func mustBeAsAhead(t *testing.T, cs []impl.Class, more []impl.Class) {
	t.Helper()
	for a := range cs {
		if !slices.Equal(impl.ClassFields(cs, a), impl.ClassFields(more, a)) {
			t.Fatalf("fields of %d are others in %v", a, more)
		}
		if impl.ClassUp(more, a, len(cs)) {
			t.Fatalf("%d is below the last one in %v", a, more)
		}
		for b := range cs {
			if impl.ClassUp(cs, a, b) != impl.ClassUp(more, a, b) || impl.ClassJoin(cs, a, b) != impl.ClassJoin(more, a, b) {
				t.Fatalf("%d and %d are others in %v", a, b, more)
			}
		}
	}
	for _, a := range allTypes(cs) {
		for _, b := range allTypes(cs) {
			if impl.TypeIn(cs, a, b) != impl.TypeIn(more, a, b) || impl.TypeJoin(cs, a, b) != impl.TypeJoin(more, a, b) {
				t.Fatalf("types %d and %d are others in %v", a, b, more)
			}
		}
	}
}

const spareMark = 77

// withSpareRoom lays all fields one behind the other in one array, marks between them, and a class behind the last: a write behind an end is seen.
func withSpareRoom(cs []impl.Class) ([]impl.Class, []int) {
	var ground []int
	for _, c := range cs {
		ground = append(append(ground, c.Fields...), spareMark, spareMark, spareMark)
	}
	var out []impl.Class
	at := 0
	for _, c := range cs {
		out = append(out, impl.Class{Super: c.Super, Fields: ground[at : at+len(c.Fields)]})
		at += len(c.Fields) + 3
	}
	out = append(out, impl.Class{Super: spareMark, Fields: []int{spareMark}})
	return out[:len(cs)], ground
}

func callAll(cs []impl.Class) {
	impl.ClassesOk(cs)
	for a := -1; a <= len(cs); a++ {
		impl.ClassFields(cs, a)
		for b := -1; b <= len(cs); b++ {
			impl.ClassUp(cs, a, b)
			impl.ClassJoin(cs, a, b)
		}
	}
	for a := -1; a <= len(cs)+impl.TypeClass; a++ {
		impl.TypeOk(cs, a)
		for b := -1; b <= len(cs)+impl.TypeClass; b++ {
			impl.TypeIn(cs, a, b)
			impl.TypeJoin(cs, a, b)
		}
	}
}

func sameClasses(a []impl.Class, b []impl.Class) bool {
	return slices.EqualFunc(a, b, func(x impl.Class, y impl.Class) bool {
		return x.Super == y.Super && slices.Equal(x.Fields, y.Fields)
	})
}

func TestClassesStayAsTheyAre(t *testing.T) {
	for _, first := range append(everyClasses(), spoiltClasses()...) {
		cs, ground := withSpareRoom(first)
		was := slices.Clone(ground)
		callAll(cs)
		if !slices.Equal(ground, was) || !sameClasses(cs, first) {
			t.Fatalf("%v are %v now", first, cs)
		}
		if last := cs[:len(cs)+1][len(cs)]; last.Super != spareMark || !slices.Equal(last.Fields, []int{spareMark}) {
			t.Fatalf("behind %v stands %v", first, last)
		}
	}
}

// P6: the answer is new memory, spare room included.
func TestFieldsAreNewMemory(t *testing.T) {
	for _, first := range everyClasses() {
		cs, ground := withSpareRoom(first)
		was := slices.Clone(ground)
		for c := range cs {
			got := impl.ClassFields(cs, c)
			want := slices.Clone(got)
			whole := got[:cap(got)]
			for i := range whole {
				whole[i] = spareMark + 1
			}
			if !slices.Equal(ground, was) || !slices.Equal(impl.ClassFields(cs, c), want) {
				t.Fatalf("what was told of %d in %v is not new", c, first)
			}
		}
	}
}
