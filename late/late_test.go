package late

import (
	"math"
	"slices"
	"sync"
	"testing"

	"slagheap/api"
	"slagheap/elem"
)

// numbers are asked of Front: below 1, around few elements, and far more than there are.
var numbers = []int{math.MinInt, math.MinInt32, -7, -1, 0, 1, 2, 3, 4, 5, 8, 100, math.MaxInt32, math.MaxInt}

// rowCase is elements as they are handed in, and as they are told.
type rowCase struct {
	name     string
	in, want []api.Elem
}

// rows are rows whose orders are written out, so that they hang on no other package.
func rows() []rowCase {
	low, high := api.Elem{P: math.MinInt64, Id: math.MaxInt64}, api.Elem{P: math.MaxInt64, Id: math.MinInt64}
	a, b, c := api.Elem{P: -5, Id: 3}, api.Elem{P: -5, Id: 4}, api.Elem{P: 0, Id: 0}
	return []rowCase{
		{"nil", nil, nil},
		{"without elements", []api.Elem{}, nil},
		{"one", []api.Elem{b}, []api.Elem{b}},
		{"a zero one", []api.Elem{{}}, []api.Elem{{}}},
		{"in order", []api.Elem{a, b, c}, []api.Elem{a, b, c}},
		{"the other way round", []api.Elem{c, b, a}, []api.Elem{a, b, c}},
		{"equal ones", []api.Elem{b, b, b}, []api.Elem{b, b, b}},
		{"some of them twice", []api.Elem{c, a, c, b, a}, []api.Elem{a, a, b, c, c}},
		{"far apart", []api.Elem{high, c, low, high, a}, []api.Elem{low, a, c, high, high}},
	}
}

// many is n elements in no order, some of them twice.
func many(n int) []api.Elem {
	l := make([]api.Elem, n)
	for i := range l {
		l[i] = api.Elem{P: int64(i*7919%101) - 50, Id: int64(i * 31 % 13)}
	}
	return l
}

// told fails, unless an answer is just these elements.
func told(t *testing.T, what string, got, want []api.Elem) {
	t.Helper()
	if !slices.Equal(got, want) {
		t.Fatalf("%s = %v, want %v", what, got, want)
	}
}

// done fails, unless so many times are told.
func done(t *testing.T, what string, x *Late, want int) {
	t.Helper()
	if got := x.Done(); got != want {
		t.Fatalf("%s: Done() = %d, want %d", what, got, want)
	}
}

// first is the first n of l, found one by one.
func first(l []api.Elem, n int) []api.Elem {
	var out []api.Elem
	for i, e := range l {
		if i >= n {
			break
		}
		out = append(out, e)
	}
	return out
}

// spoil writes over all that a list has, and over all it has room for.
func spoil(l []api.Elem) {
	l = l[:cap(l)]
	for i := range l {
		l[i] = api.Elem{P: 77, Id: -77}
	}
}

// P4.1, P4.2: All twice: Done is 1.
func TestExample(t *testing.T) {
	x := Of([]api.Elem{{P: 2}, {P: 1}, {P: 3}})
	want := []api.Elem{{P: 1}, {P: 2}, {P: 3}}
	done(t, "ahead of All", x, 0)
	told(t, "All", x.All(), want)
	told(t, "All again", x.All(), want)
	done(t, "behind All twice", x, 1)
}

// P4.1: All is all elements, in order, as often as they are there, each time.
func TestAll(t *testing.T) {
	for _, r := range rows() {
		x := Of(r.in)
		for range 3 {
			told(t, r.name+": All()", x.All(), r.want)
		}
	}
}

// P4.1: All is elem.Sort of what was handed in, of long rows too.
func TestAllIsSort(t *testing.T) {
	for _, n := range []int{0, 1, 2, 3, 11, 12, 13, 64, 1000, 100000} {
		l := many(n)
		told(t, "All of many", Of(l).All(), elem.Sort(l))
	}
}

// P4.1: Front is the first n of All, whether it or All was called first.
func TestFront(t *testing.T) {
	for _, r := range rows() {
		asked := Of(r.in)
		asked.All()
		for _, n := range numbers {
			want := first(r.want, n)
			told(t, r.name+": Front, first of all", Of(r.in).Front(n), want)
			told(t, r.name+": Front behind others", asked.Front(n), want)
		}
		told(t, r.name+": All behind Front", asked.All(), r.want)
	}
}

// P4.1: whatever number Front is asked for, it is the first ones: none below 1, all of so many or more.
func TestFrontOfEachNumber(t *testing.T) {
	l := many(40)
	want := elem.Sort(l)
	x := Of(l)
	for n := -3; n <= len(l)+3; n++ {
		told(t, "Front", x.Front(n), want[:min(max(n, 0), len(l))])
	}
	for _, n := range []int{math.MinInt, math.MinInt + 1, math.MinInt32, -1, 0} {
		told(t, "Front of a number below 1", x.Front(n), nil)
	}
	for _, n := range []int{len(l), len(l) + 1, math.MaxInt32, math.MaxInt - 1, math.MaxInt} {
		told(t, "Front of so many, or more", x.Front(n), want)
	}
}

// P4.1, P4.2: nil has no elements, and was never put in order, whatever is asked of it.
func TestNil(t *testing.T) {
	var x *Late
	for range 2 {
		done(t, "nil", x, 0)
		told(t, "All() of nil", x.All(), nil)
		done(t, "nil, behind All", x, 0)
		for _, n := range numbers {
			told(t, "Front of nil", x.Front(n), nil)
		}
		done(t, "nil, behind Front", x, 0)
	}
}

// P4.1, P4.2: a row without elements is one: it is put in order as any other one is.
func TestWithoutElements(t *testing.T) {
	for _, l := range [][]api.Elem{nil, {}, many(5)[:0]} {
		x := Of(l)
		if x == nil {
			t.Fatal("Of a row without elements is nil")
		}
		done(t, "ahead of All", x, 0)
		told(t, "All", x.All(), nil)
		done(t, "behind All", x, 1)
		for _, n := range numbers {
			y := Of(l)
			told(t, "Front", y.Front(n), nil)
			done(t, "behind Front", y, 1)
		}
	}
}

// P4.1, P4.2: a Late that Of didn't make has no elements, and fails nobody.
func TestZeroValue(t *testing.T) {
	for _, n := range numbers {
		var x Late
		done(t, "a zero value", &x, 0)
		told(t, "Front of a zero value", x.Front(n), nil)
		told(t, "All of a zero value", x.All(), nil)
		done(t, "a zero value, asked", &x, 1)
	}
}

// P4.1: no call changes what was handed to Of (rule 3).
func TestOfChangesNothing(t *testing.T) {
	l := many(30)
	before := slices.Clone(l)
	x := Of(l[3:20])
	told(t, "the list, behind Of", l, before)
	x.Front(2)
	told(t, "the list, behind Front", l, before)
	x.All()
	told(t, "the list, behind All", l, before)
	x.Done()
	told(t, "the list, behind Done", l, before)
}

// P4.1: what was handed to Of is copied: to change it behind the call changes nothing, ahead of the first All or Front, or behind it.
func TestOfKeepsNothing(t *testing.T) {
	for _, r := range rows() {
		late, soon, front := slices.Clone(r.in), slices.Clone(r.in), slices.Clone(r.in)
		x, y, z := Of(late), Of(soon), Of(front)
		spoil(late)
		told(t, r.name+": All, changed ahead of it", x.All(), r.want)
		y.All()
		spoil(soon)
		told(t, r.name+": All, changed between two", y.All(), r.want)
		told(t, r.name+": Front, changed between two", y.Front(2), first(r.want, 2))
		spoil(front)
		told(t, r.name+": Front, changed ahead of it", z.Front(2), first(r.want, 2))
	}
}

// P4.1: what All and Front tell is new memory, each time: whoever changes it changes nothing else.
func TestAnswersInNewMemory(t *testing.T) {
	for _, r := range rows() {
		x := Of(r.in)
		for _, n := range append([]int{len(r.in)}, numbers...) {
			want := first(r.want, n)
			all, front := x.All(), x.Front(n)
			otherAll, otherFront := x.All(), x.Front(n)
			spoil(all)
			told(t, r.name+": Front, All's answer being changed", front, want)
			spoil(front)
			told(t, r.name+": another All's answer", otherAll, r.want)
			told(t, r.name+": another Front's answer", otherFront, want)
			told(t, r.name+": All, once more", x.All(), r.want)
			told(t, r.name+": Front, once more", x.Front(n), want)
		}
		done(t, r.name, x, 1)
	}
}

// P4.1: the first answers of all are new memory too, of a row that was in order already.
func TestFirstAnswerInNewMemory(t *testing.T) {
	l := elem.Sort(many(20))
	before := slices.Clone(l)
	asks := map[string]func(*Late) []api.Elem{
		"All":              (*Late).All,
		"Front of few":     func(x *Late) []api.Elem { return x.Front(3) },
		"Front of all":     func(x *Late) []api.Elem { return x.Front(len(l)) },
		"Front of more":    func(x *Late) []api.Elem { return x.Front(math.MaxInt) },
		"Front of none":    func(x *Late) []api.Elem { return x.Front(0) },
		"Front of below 0": func(x *Late) []api.Elem { return x.Front(-1) },
	}
	for name, ask := range asks {
		x := Of(l)
		answer := ask(x)
		spoil(answer)
		_ = append(answer[:0], api.Elem{P: 5}, api.Elem{P: 6})
		told(t, name+": All behind a change", x.All(), before)
		told(t, name+": what was handed in", l, before)
	}
}

// P4.2: none until All or Front was called, however often Done itself is.
func TestDoneAhead(t *testing.T) {
	for _, r := range rows() {
		x := Of(r.in)
		for range 3 {
			done(t, r.name, x, 0)
		}
	}
}

// P4.2: once behind All, or behind Front of whatever number, and once for ever.
func TestDoneBehind(t *testing.T) {
	for _, r := range rows() {
		x := Of(r.in)
		for range 5 {
			x.All()
			done(t, r.name+": behind All", x, 1)
		}
		for _, n := range numbers {
			y := Of(r.in)
			y.Front(n)
			done(t, r.name+": behind Front, first of all", y, 1)
			y.Front(n)
			y.All()
			done(t, r.name+": behind more", y, 1)
			x.Front(n)
			done(t, r.name+": behind many", x, 1)
		}
	}
	long := Of(many(50))
	for range 10000 {
		long.Front(1)
	}
	done(t, "behind very many", long, 1)
}

// P4.2: each one counts for itself, also where two are of one list.
func TestEachCountsForItself(t *testing.T) {
	l := many(9)
	x, y := Of(l), Of(l)
	x.All()
	done(t, "the one that was asked", x, 1)
	done(t, "the other one", y, 0)
	told(t, "the other one's All", y.All(), x.All())
	done(t, "both", y, 1)
	done(t, "a third one", Of(y.All()), 0)
}

// P4.2: what Done tells is what was done: the row is as it was handed in until it is asked for, and is put in order no second time.
func TestOrderIsMadeLateAndOnce(t *testing.T) {
	l := []api.Elem{{P: 3}, {P: 1}, {P: 2}}
	x := Of(l)
	x.Done()
	told(t, "the row, until it is asked for", x.row, l)
	told(t, "All", x.All(), []api.Elem{{P: 1}, {P: 2}, {P: 3}})
	// A second sort would undo this.
	slices.Reverse(x.row)
	want := []api.Elem{{P: 3}, {P: 2}, {P: 1}}
	told(t, "All of a row that was turned", x.All(), want)
	told(t, "Front of a row that was turned", x.Front(2), want[:2])
	done(t, "behind all that", x, 1)
}

// P4.2: once, also where several ask for it at once.
func TestSeveral(t *testing.T) {
	l := many(5000)
	want := elem.Sort(l)
	x := Of(l)
	var all sync.WaitGroup
	for hand := range 8 {
		all.Go(func() {
			if got := x.Front(hand * 100); !slices.Equal(got, want[:hand*100]) {
				t.Errorf("Front(%d) of one of several", hand*100)
			}
			if got := x.All(); !slices.Equal(got, want) || x.Done() != 1 {
				t.Errorf("All of one of several; Done() = %d", x.Done())
			}
		})
	}
	all.Wait()
	done(t, "behind all of them", x, 1)
}
