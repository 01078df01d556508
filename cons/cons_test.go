package cons

import (
	"math"
	"slices"
	"testing"
)

// holds fails, unless all that a list tells is that it has just these things.
func holds[T comparable](t *testing.T, what string, l List[T], want []T) {
	t.Helper()
	if got := l.All(); !slices.Equal(got, want) {
		t.Fatalf("%s: All() = %v, want %v", what, got, want)
	}
	if got := l.Len(); got != len(want) {
		t.Fatalf("%s: Len() = %d, want %d", what, got, len(want))
	}
	first, is := l.First()
	var wantFirst T
	if len(want) > 0 {
		wantFirst = want[0]
	}
	if is != (len(want) > 0) || first != wantFirst {
		t.Fatalf("%s: First() = %v, %v, want %v, %v", what, first, is, wantFirst, len(want) > 0)
	}
}

// count is the numbers from, from+1 and on, so many.
func count(from, n int) []int {
	l := make([]int, n)
	for i := range l {
		l[i] = from + i
	}
	return l
}

// turned is a copy of l the other way round.
func turned[T any](l []T) []T {
	out := slices.Clone(l)
	slices.Reverse(out)
	return out
}

// empties are lists without things, however they came to be.
func empties() map[string]List[int] {
	return map[string]List[int]{
		"zero value":          {},
		"Of()":                Of[int](),
		"Of(nil...)":          Of([]int(nil)...),
		"Of(empty...)":        Of([]int{}...),
		"Rest of one":         Of(7).Rest(),
		"Rest of none":        List[int]{}.Rest(),
		"Rest, far too often": Of(7, 8).Rest().Rest().Rest().Rest(),
		"Rev of none":         List[int]{}.Rev(),
		"Join of none":        List[int]{}.Join(Of[int]()),
		"Drop of all":         Of(7, 8).Drop(2),
		"Drop of more":        Of(7, 8).Drop(9),
		"Drop of none":        List[int]{}.Drop(0),
	}
}

// P3.1, P3.2: of 1, 2, with 0 pushed, the other way round: 2, 1, 0.
func TestExample(t *testing.T) {
	l := Of(1, 2)
	pushed := l.Push(0)
	holds(t, "the other way round", pushed.Rev(), []int{2, 1, 0})
	holds(t, "pushed", pushed, []int{0, 1, 2})
	holds(t, "ahead of both", l, []int{1, 2})
}

// P3.1: Of is the list of just these, in order, as often as they are there.
func TestOf(t *testing.T) {
	for n := range 20 {
		want := count(-3, n)
		holds(t, "Of", Of(want...), want)
	}
	holds(t, "Of equal ones", Of(5, 5, 0, 5), []int{5, 5, 0, 5})
	holds(t, "Of edges", Of(math.MinInt, 0, math.MaxInt), []int{math.MinInt, 0, math.MaxInt})
	long := count(0, 100000)
	holds(t, "Of many", Of(long...), long)
}

// P3.1: what is handed to Of is neither changed nor kept (rule 3).
func TestOfKeepsNothing(t *testing.T) {
	in := []int{1, 2, 3, 4}
	l := Of(in[:3]...)
	if !slices.Equal(in, []int{1, 2, 3, 4}) {
		t.Fatalf("Of changed what was handed in: %v", in)
	}
	l.Push(9)
	l.Join(Of(8, 8))
	l.Rev()
	if !slices.Equal(in, []int{1, 2, 3, 4}) {
		t.Fatalf("a list writes what was handed to Of: %v", in)
	}
	for i := range in {
		in[i] = -1
	}
	holds(t, "behind a change of what was handed in", l, []int{1, 2, 3})
}

// P3.1, P3.2: a list without things, the zero value among them, is one, whatever is done with it.
func TestEmpty(t *testing.T) {
	for name, l := range empties() {
		holds(t, name, l, nil)
		holds(t, name+", Rest", l.Rest(), nil)
		holds(t, name+", Rev", l.Rev(), nil)
		for _, n := range []int{math.MinInt, -1, 0, 1, 2, math.MaxInt} {
			holds(t, name+", Drop", l.Drop(n), nil)
		}
		holds(t, name+", Push", l.Push(4), []int{4})
		holds(t, name+", Push twice", l.Push(4).Push(3), []int{3, 4})
		holds(t, name+", Join", l.Join(Of(1, 2)), []int{1, 2})
		holds(t, name+", joined", Of(1, 2).Join(l), []int{1, 2})
		for other, m := range empties() {
			holds(t, name+", Join of "+other, l.Join(m), nil)
		}
		holds(t, name+", behind all that", l, nil)
	}
}

// P3.1: the thing that is pushed stands first, and all others behind it.
func TestPush(t *testing.T) {
	var l List[int]
	var want []int
	for i := range 50 {
		l = l.Push(i % 7)
		want = append([]int{i % 7}, want...)
		holds(t, "Push", l, want)
	}
}

// P3.1: of a list, First is the first thing, which may be a zero one.
func TestFirst(t *testing.T) {
	for _, first := range []int{0, 1, -1, math.MaxInt, math.MinInt} {
		if x, is := Of(first, 2, 3).First(); x != first || !is {
			t.Errorf("First() = %d, %v, want %d, true", x, is, first)
		}
		if x, is := Of(3).Push(first).First(); x != first || !is {
			t.Errorf("First() behind Push(%d) = %d, %v", first, x, is)
		}
	}
	if x, is := Of(3).Rest().First(); x != 0 || is {
		t.Errorf("First() of none = %d, %v", x, is)
	}
	if x, is := Of("a").Drop(1).First(); x != "" || is {
		t.Errorf("First() of no texts = %q, %v", x, is)
	}
	number := 6
	if x, is := Of(&number).Drop(1).First(); x != nil || is {
		t.Errorf("First() of no pointers = %v, %v", x, is)
	}
	if x, is := Of[*int](nil).First(); x != nil || !is {
		t.Errorf("First() of one nil = %v, %v", x, is)
	}
}

// P3.1: Rest is all but the first one, until there are none.
func TestRest(t *testing.T) {
	want := count(0, 30)
	l := Of(want...)
	for len(want) > 0 {
		l, want = l.Rest(), want[1:]
		holds(t, "Rest", l, want)
	}
	for range 3 {
		l = l.Rest()
		holds(t, "Rest of none", l, nil)
	}
	holds(t, "Rest behind Push", Of(1, 2).Push(0).Rest(), []int{1, 2})
}

// P3.1: what All tells is new memory, each time.
func TestAllInNewMemory(t *testing.T) {
	l := Of(1, 2, 3)
	longer, behind := l.Push(0), l.Rest()
	once, twice := l.All(), l.All()
	for i := range once {
		once[i] = -1
	}
	_ = append(once[:0], 8, 8, 8)
	_ = append(behind.All()[:1], 9)
	if !slices.Equal(twice, []int{1, 2, 3}) {
		t.Errorf("two answers share memory: %v", twice)
	}
	holds(t, "the list", l, []int{1, 2, 3})
	holds(t, "a longer one", longer, []int{0, 1, 2, 3})
	holds(t, "what is behind its first thing", behind, []int{2, 3})
}

// P3.2: Rev is the other way round; twice, it is as it was.
func TestRev(t *testing.T) {
	for n := range 20 {
		want := count(0, n)
		l := Of(want...)
		holds(t, "Rev", l.Rev(), turned(want))
		holds(t, "Rev twice", l.Rev().Rev(), want)
		holds(t, "Rev, the list", l, want)
	}
	holds(t, "Rev behind Push", Of("b", "c").Push("a").Rev(), []string{"c", "b", "a"})
}

// P3.2: Join is l's things, then m's, also if both are one list.
func TestJoin(t *testing.T) {
	for i := range 8 {
		for j := range 8 {
			a, b := count(0, i), count(100, j)
			l, m := Of(a...), Of(b...)
			holds(t, "Join", l.Join(m), slices.Concat(a, b))
			holds(t, "Join of itself", l.Join(l), slices.Concat(a, a))
			holds(t, "Join of three", l.Join(m).Join(l), slices.Concat(a, b, a))
			holds(t, "Join of three, the last two first", l.Join(m.Join(l)), slices.Concat(a, b, a))
			holds(t, "Join, l", l, a)
			holds(t, "Join, m", m, b)
		}
	}
}

// P3.2: Drop is without the first n ones: l itself below 1, none of so many or more.
func TestDrop(t *testing.T) {
	for size := range 10 {
		want := count(0, size)
		l := Of(want...)
		for n := -3; n <= size+3; n++ {
			holds(t, "Drop", l.Drop(n), want[min(max(n, 0), size):])
		}
		for _, n := range []int{math.MinInt, math.MinInt + 1, math.MinInt32} {
			holds(t, "Drop far below 1", l.Drop(n), want)
		}
		for _, n := range []int{math.MaxInt, math.MaxInt - 1, math.MaxInt32} {
			holds(t, "Drop of far more", l.Drop(n), nil)
		}
		holds(t, "Drop, the list", l, want)
	}
	holds(t, "Drop twice", Of(1, 2, 3, 4).Drop(1).Drop(2), []int{4})
}

// P3.1, P3.2: a list may have things of any type.
func TestThingsOfOtherTypes(t *testing.T) {
	type pair struct {
		name string
		at   [2]int
	}
	a, b, c := pair{"a", [2]int{1, 2}}, pair{"b", [2]int{3, 4}}, pair{}
	holds(t, "pairs", Of(a, b).Push(c).Join(Of(a)).Rev().Drop(1), []pair{b, a, c})
	holds(t, "anything", Of[any](1, "x", nil).Push(2.5).Rev(), []any{nil, "x", 1, 2.5})
	holds(t, "nothings", Of(struct{}{}, struct{}{}).Push(struct{}{}), []struct{}{{}, {}, {}})
	lists := Of(Of(1), Of(2, 3)).Push(Of[int]())
	for i, want := range [][]int{nil, {1}, {2, 3}} {
		l, is := lists.Drop(i).First()
		if !is {
			t.Fatalf("no list at %d", i)
		}
		holds(t, "a list of lists", l, want)
	}
	// Functions can't be compared: a list must not need that.
	calls := Of(func() int { return 1 }, func() int { return 2 }).Rev().All()
	if len(calls) != 2 || calls[0]() != 2 || calls[1]() != 1 {
		t.Errorf("functions the other way round: %d of them", len(calls))
	}
}

// P3.1, P3.2: long lists are neither too deep nor too many.
func TestLong(t *testing.T) {
	const n = 1 << 20
	want := count(0, n)
	l := Of(want...)
	holds(t, "Rev", l.Rev(), turned(want))
	holds(t, "Join", l.Join(l), slices.Concat(want, want))
	holds(t, "Drop", l.Drop(n-1), want[n-1:])
	holds(t, "Drop of one more", l.Drop(n+1), nil)
}

// known is a list, and what it had when it was made.
type known struct {
	l    List[int]
	want []int
}

// made is all that one call makes of a and b, the numbers that are pushed being told apart by mark.
func made(a, b known, mark int) []known {
	n := mark % 5
	rest := a.want
	if len(rest) > 0 {
		rest = rest[1:]
	}
	return []known{
		{a.l.Push(mark), append([]int{mark}, a.want...)},
		{a.l.Push(-mark), append([]int{-mark}, a.want...)},
		{a.l.Rest(), rest},
		{a.l.Rev(), turned(a.want)},
		{a.l.Join(b.l), slices.Concat(a.want, b.want)},
		{b.l.Join(a.l), slices.Concat(b.want, a.want)},
		{a.l.Join(a.l), slices.Concat(a.want, a.want)},
		{a.l.Drop(n), a.want[min(n, len(a.want)):]},
		{a.l.Drop(-n), a.want},
	}
}

// P3.3: whatever is made of lists, and of those that came of them, each has for ever what it had.
func TestListsStay(t *testing.T) {
	all := []known{{List[int]{}, nil}, {Of(1), []int{1}}, {Of(1, 2, 3), []int{1, 2, 3}}, {Of(4, 4, 0, 4, 5), []int{4, 4, 0, 4, 5}}}
	for round := 1; round <= 400; round++ {
		a, b := all[round*7919%len(all)], all[round*104729%len(all)]
		for _, k := range made(a, b, round) {
			holds(t, "just made", k.l, k.want)
			// Joins of joins would double without end.
			if len(k.want) <= 40 {
				all = append(all, k)
			}
		}
		told := a.l.All()
		for i := range told {
			told[i] = -9
		}
		holds(t, "a, at once", a.l, a.want)
		holds(t, "b, at once", b.l, b.want)
	}
	for _, k := range all {
		holds(t, "at the end", k.l, k.want)
	}
}

// P3.3: what two make of one list does not meet.
func TestTwoOfOne(t *testing.T) {
	l := Of(1, 2, 3)
	for _, base := range []known{{l, []int{1, 2, 3}}, {l.Rest(), []int{2, 3}}, {l.Drop(3), nil}, {l.Push(0), []int{0, 1, 2, 3}}, {l.Rev(), []int{3, 2, 1}}} {
		x, y := base.l.Push(10), base.l.Push(20)
		u, v := base.l.Join(Of(30)), base.l.Join(Of(40))
		holds(t, "one push", x, append([]int{10}, base.want...))
		holds(t, "the other push", y, append([]int{20}, base.want...))
		holds(t, "one join", u, slices.Concat(base.want, []int{30}))
		holds(t, "the other join", v, slices.Concat(base.want, []int{40}))
		holds(t, "what they came of", base.l, base.want)
	}
}

// P3.1: whoever ranges over a list's things may stop early, and begin again.
func TestEachStops(t *testing.T) {
	l := Of(1, 2, 3)
	for range 2 {
		var told []int
		for x := range l.each {
			told = append(told, x)
			if x == 2 {
				break
			}
		}
		if !slices.Equal(told, []int{1, 2}) {
			t.Errorf("told until 2: %v", told)
		}
	}
}
