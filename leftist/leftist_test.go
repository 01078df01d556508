package leftist_test

import (
	"math"
	"slices"
	"strconv"
	"strings"
	"testing"

	"slagheap/api"
	"slagheap/leftist"
	"slagheap/meter"
)

// model is a heap as the document tells it, written without the package's own calls, and without ranks or sizes that are kept; nil is none.
type model struct {
	root        api.Elem
	left, right *model
}

// steps is how many comparisons a model takes, and how many things made.
type steps struct{ compared, made int }

// less is the order of elements, by what the document says of it.
func less(a, b api.Elem) bool { return a.P < b.P || a.P == b.P && a.Id < b.Id }

// order is how two elements stand, for the library's sorting.
func order(a, b api.Elem) int {
	if less(a, b) {
		return -1
	}
	if less(b, a) {
		return 1
	}
	return 0
}

func (k *model) rank() int {
	if k == nil {
		return 0
	}
	return k.right.rank() + 1
}

func (k *model) all() []api.Elem {
	if k == nil {
		return nil
	}
	return slices.Concat([]api.Elem{k.root}, k.left.all(), k.right.all())
}

// inOrder is all elements of a model, the least one first.
func (k *model) inOrder() []api.Elem {
	l := k.all()
	slices.SortFunc(l, order)
	return l
}

func (k *model) show() string {
	if k == nil {
		return "."
	}
	p, id := strconv.FormatInt(k.root.P, 10), strconv.FormatInt(k.root.Id, 10)
	return "(" + p + ":" + id + " " + k.left.show() + " " + k.right.show() + ")"
}

// lone is a node of an element alone.
func (s *steps) lone(x api.Elem) *model {
	s.made++
	return &model{root: x}
}

func (s *steps) meld(h, o *model) *model {
	if h == nil {
		return o
	}
	if o == nil {
		return h
	}
	s.compared++
	winner, loser := h, o
	if less(o.root, h.root) {
		winner, loser = o, h
	}
	s.made++
	melded := s.meld(winner.right, loser)
	if melded.rank() > winner.left.rank() {
		return &model{winner.root, melded, winner.left}
	}
	return &model{winner.root, winner.left, melded}
}

func (s *steps) of(l []api.Elem) *model {
	var k *model
	for _, x := range l {
		k = s.meld(s.lone(x), k)
	}
	return k
}

// pair is a heap, and what it has to be for ever.
type pair struct {
	heap leftist.Heap
	want *model
}

// counted fails, unless so many comparisons and things made were counted since the meter was new.
func counted(t *testing.T, what string, m *meter.Meter, want steps) {
	t.Helper()
	if c, n := m.Split(); c != want.compared || n != want.made {
		t.Fatalf("%s: %d comparisons, %d made, want %d, %d", what, c, n, want.compared, want.made)
	}
}

// of is Of by a meter of its own, and without one.
func of(t *testing.T, l ...api.Elem) pair {
	t.Helper()
	var s steps
	m := meter.New()
	p := pair{leftist.Of(m, l...), s.of(l)}
	counted(t, "Of", m, s)
	holds(t, "Of without a meter", leftist.Of(nil, l...), p.want)
	return p
}

// insert is Insert by a meter of its own, and without one.
func (p pair) insert(t *testing.T, x api.Elem) pair {
	t.Helper()
	var s steps
	m := meter.New()
	q := pair{p.heap.Insert(m, x), s.meld(s.lone(x), p.want)}
	counted(t, "Insert", m, s)
	holds(t, "Insert without a meter", p.heap.Insert(nil, x), q.want)
	return q
}

// meld is Meld by a meter of its own, and without one.
func (p pair) meld(t *testing.T, o pair) pair {
	t.Helper()
	var s steps
	m := meter.New()
	q := pair{p.heap.Meld(m, o.heap), s.meld(p.want, o.want)}
	counted(t, "Meld", m, s)
	holds(t, "Meld without a meter", p.heap.Meld(nil, o.heap), q.want)
	return q
}

// pop is Pop by a meter of its own, and without one.
func (p pair) pop(t *testing.T) pair {
	t.Helper()
	var s steps
	var want *model
	if p.want != nil {
		want = s.meld(p.want.left, p.want.right)
	}
	m := meter.New()
	h, is := p.heap.Pop(m)
	counted(t, "Pop", m, s)
	again, isAgain := p.heap.Pop(nil)
	if is != (p.want != nil) || isAgain != is {
		t.Fatalf("Pop() of %s: %v, without a meter %v", p.want.show(), is, isAgain)
	}
	holds(t, "Pop without a meter", again, want)
	return pair{h, want}
}

// holds fails, unless all that a heap tells is that it is just this one, and asking for it takes no step.
func holds(t *testing.T, what string, h leftist.Heap, want *model) {
	t.Helper()
	var root api.Elem
	if want != nil {
		root = want.root
	}
	m := meter.New()
	least, is := h.Min(m)
	if again, isAgain := h.Min(nil); least != root || again != root || is != (want != nil) || isAgain != is {
		t.Fatalf("%s: Min() = %v, %v, without a meter %v, %v, want %v, %v", what, least, is, again, isAgain, root, want != nil)
	}
	counted(t, what+", Min", m, steps{})
	if got := h.Size(); got != len(want.all()) {
		t.Fatalf("%s: Size() = %d, want %d", what, got, len(want.all()))
	}
	if got := h.Show(); got != want.show() {
		t.Fatalf("%s: Show() = %s, want %s", what, got, want.show())
	}
}

// emptied fails, unless Pop after Pop tells all elements of a heap, in order, and then that there is none.
func emptied(t *testing.T, what string, p pair) {
	t.Helper()
	h := p
	for i, want := range p.want.inOrder() {
		if got, is := h.heap.Min(nil); got != want || !is {
			t.Fatalf("%s: %d popped of %s: Min() = %v, %v, want %v", what, i, p.want.show(), got, is, want)
		}
		h = h.pop(t)
	}
	if h.heap.Size() != 0 || h.heap.Show() != "." {
		t.Fatalf("%s: all popped: Size() = %d, Show() = %s", what, h.heap.Size(), h.heap.Show())
	}
	holds(t, what+", from which all was popped", p.heap, p.want)
}

// shows fails, unless a heap is as the document tells it, and its text is this one, written out.
func shows(t *testing.T, p pair, want string) {
	t.Helper()
	if got := p.heap.Show(); got != want {
		t.Errorf("Show() = %s, want %s", got, want)
	}
	holds(t, want, p.heap, p.want)
}

// el is the element p:0.
func el(p int64) api.Elem { return api.Elem{P: p} }

// els are the elements p:0.
func els(ps ...int64) []api.Elem {
	var l []api.Elem
	for _, p := range ps {
		l = append(l, el(p))
	}
	return l
}

// P6.1, P6.2: Of 2:0, 1:0, 3:0: 7 steps.
func TestExample(t *testing.T) {
	m := meter.New()
	h := leftist.Of(m, el(2), el(1), el(3))
	if got := h.Show(); got != "(1:0 (2:0 . .) (3:0 . .))" {
		t.Errorf("Show() = %s", got)
	}
	if got := m.Steps(); got != 7 {
		t.Errorf("Steps() = %d", got)
	}
	counted(t, "Of", m, steps{2, 5})
	p := of(t, els(2, 1, 3)...)
	shows(t, p, "(1:0 (2:0 . .) (3:0 . .))")
	emptied(t, "the example", p)
}

// P6.1, P6.2: of no elements is the empty heap, whoever makes it; it tells nothing, and takes no step.
func TestEmpty(t *testing.T) {
	var zero leftist.Heap
	empty := []pair{{}, {zero, nil}, of(t), of(t, []api.Elem{}...), of(t, el(4)).pop(t), pair{}.pop(t), pair{}.meld(t, pair{})}
	for _, p := range empty {
		shows(t, p, ".")
		m := meter.New()
		if x, is := p.heap.Min(m); x != (api.Elem{}) || is {
			t.Errorf("Min() of none = %v, %v", x, is)
		}
		if h, is := p.heap.Pop(m); is || h.Size() != 0 || h.Show() != "." {
			t.Errorf("Pop() of none = %s, %v", h.Show(), is)
		}
		if p.heap.Size() != 0 {
			t.Errorf("Size() of none = %d", p.heap.Size())
		}
		counted(t, "Min, Pop and Size of none", m, steps{})
		shows(t, p.insert(t, el(7)), "(7:0 . .)")
		shows(t, p.pop(t), ".")
		emptied(t, "none", p)
	}
}

// P6.1: Meld where one has no elements is the other one, where both have none is none: no steps.
func TestMeldOfEmpty(t *testing.T) {
	for _, l := range [][]api.Elem{nil, els(5), els(2, 1, 3), els(3, 3, 3, 3)} {
		p := of(t, l...)
		for _, none := range []pair{{}, of(t), of(t, el(0)).pop(t)} {
			m := meter.New()
			ahead, behind := p.heap.Meld(m, none.heap), none.heap.Meld(m, p.heap)
			counted(t, "Meld where one is empty", m, steps{})
			holds(t, "Meld, the second one empty", ahead, p.want)
			holds(t, "Meld, the first one empty", behind, p.want)
			holds(t, "Meld of empty, without a meter", p.heap.Meld(nil, none.heap), p.want)
			holds(t, "Meld of empty and a heap, without a meter", none.heap.Meld(nil, p.heap), p.want)
			shows(t, none, ".")
			emptied(t, "Meld of empty", pair{ahead, p.want})
		}
	}
}

// P6.1: the winner is the one whose root stands ahead, whichever is handed in.
func TestMeldWinner(t *testing.T) {
	a, b := of(t, els(1, 5)...), of(t, els(2, 6)...)
	shows(t, a, "(1:0 (5:0 . .) .)")
	shows(t, b, "(2:0 (6:0 . .) .)")
	m := meter.New()
	a.heap.Meld(m, b.heap)
	counted(t, "Meld of two", m, steps{1, 1})
	shows(t, a.meld(t, b), "(1:0 (5:0 . .) (2:0 (6:0 . .) .))")
	shows(t, b.meld(t, a), "(1:0 (5:0 . .) (2:0 (6:0 . .) .))")
	// The Id tells, where the P doesn't.
	c, d := of(t, api.Elem{P: 1, Id: -1}, el(5)), of(t, api.Elem{P: 1, Id: -2}, el(6))
	shows(t, c.meld(t, d), "(1:-2 (6:0 . .) (1:-1 (5:0 . .) .))")
	shows(t, d.meld(t, c), "(1:-2 (6:0 . .) (1:-1 (5:0 . .) .))")
	emptied(t, "Meld of two", d.meld(t, c))
}

// P6.1: of two roots of which neither stands ahead, the one of the heap that is asked wins.
func TestMeldOfEqualRoots(t *testing.T) {
	a, b := of(t, els(1, 5)...), of(t, els(1, 6)...)
	shows(t, a.meld(t, b), "(1:0 (5:0 . .) (1:0 (6:0 . .) .))")
	shows(t, b.meld(t, a), "(1:0 (6:0 . .) (1:0 (5:0 . .) .))")
	emptied(t, "equal roots", a.meld(t, b))
}

// P6.1: below the root the winner's right heap is the one that is asked, whichever of the two won.
func TestMeldOfEqualRootsBelow(t *testing.T) {
	winner := of(t, els(0, 1, 5, 6)...)
	shows(t, winner, "(0:0 (1:0 . .) (5:0 (6:0 . .) .))")
	loser := of(t, els(5, 7)...)
	want := "(0:0 (5:0 (6:0 . .) (5:0 (7:0 . .) .)) (1:0 . .))"
	shows(t, winner.meld(t, loser), want)
	shows(t, loser.meld(t, winner), want)
	emptied(t, "equal roots below", winner.meld(t, loser))
}

// P6.1: of the winner's left heap and the melded one, that with the greater rank is the left one; of one rank, the winner's.
func TestMeldLeft(t *testing.T) {
	rows := []struct {
		what, want    string
		winner, loser []int64
	}{
		{"the winner has no left heap", "(0:0 (9:0 . .) .)", []int64{0}, []int64{9}},
		{"both of rank 1", "(0:0 (1:0 . .) (9:0 . .))", []int64{0, 1}, []int64{9}},
		{"both of rank 1, the winner's left one the greater", "(0:0 (8:0 . .) (7:0 . .))", []int64{0, 8}, []int64{7}},
		{"the melded one of rank 2, the winner's left one of 1", "(0:0 (7:0 (8:0 . .) (9:0 . .)) (6:0 . .))", []int64{0, 6}, []int64{7, 8, 9}},
		{"the winner's left one of rank 2, the melded one of 1", "(0:0 (1:0 (2:0 . .) (3:0 . .)) (9:0 . .))", []int64{2, 1, 3, 0}, []int64{9}},
		{"both of rank 2", "(0:0 (1:0 (2:0 . .) (3:0 . .)) (7:0 (8:0 . .) (9:0 . .)))", []int64{2, 1, 3, 0}, []int64{7, 8, 9}},
		{"the winner's left one of rank 1, its right one and the loser of 1: the melded one stays right", "(0:0 (1:0 . .) (4:0 (5:0 . .) .))", []int64{0, 1, 5}, []int64{4}},
		{"the winner's left one of rank 1, the melded one of 2", "(0:0 (4:0 (6:0 . .) (5:0 . .)) (1:0 . .))", []int64{0, 1, 4, 6}, []int64{5}},
	}
	for _, r := range rows {
		a, b := of(t, els(r.winner...)...), of(t, els(r.loser...)...)
		for _, p := range []pair{a.meld(t, b), b.meld(t, a)} {
			if got := p.heap.Show(); got != r.want {
				t.Errorf("%s: Show() = %s, want %s", r.what, got, r.want)
			}
			shows(t, p, r.want)
			emptied(t, r.what, p)
		}
	}
}

// P6.1: a node of the element alone, melded with the heap; of equal roots the node wins.
func TestInsert(t *testing.T) {
	rows := []struct {
		what, want string
		l          []int64
		x          api.Elem
		s          steps
	}{
		{"into the empty heap", "(3:0 . .)", nil, el(3), steps{0, 1}},
		{"ahead of one", "(1:0 (3:0 . .) .)", []int64{3}, el(1), steps{1, 2}},
		{"behind one", "(3:0 (4:0 . .) .)", []int64{3}, el(4), steps{1, 2}},
		{"ahead of all", "(0:0 (1:0 (2:0 . .) (3:0 . .)) .)", []int64{2, 1, 3}, el(0), steps{1, 2}},
		{"behind all", "(1:0 (2:0 . .) (3:0 (9:0 . .) .))", []int64{2, 1, 3}, el(9), steps{2, 3}},
		{"between", "(1:0 (2:0 . .) (2:5 (3:0 . .) .))", []int64{2, 1, 3}, api.Elem{P: 2, Id: 5}, steps{2, 3}},
		{"as the root", "(1:0 (1:0 (2:0 . .) (3:0 . .)) .)", []int64{2, 1, 3}, el(1), steps{1, 2}},
		{"as one below", "(1:0 (3:0 (4:0 . .) (3:0 . .)) (2:0 . .))", []int64{2, 1, 3, 4}, el(3), steps{2, 3}},
	}
	for _, r := range rows {
		p := of(t, els(r.l...)...)
		m := meter.New()
		p.heap.Insert(m, r.x)
		counted(t, "Insert "+r.what, m, r.s)
		q := p.insert(t, r.x)
		shows(t, q, r.want)
		if q.heap.Size() != p.heap.Size()+1 {
			t.Errorf("Insert %s: Size() = %d of %d", r.what, q.heap.Size(), p.heap.Size())
		}
		emptied(t, "Insert "+r.what, q)
	}
}

// P6.1: Of is one Insert after the other, in order, into the empty heap.
func TestOf(t *testing.T) {
	rows := []struct {
		want string
		l    []int64
		s    steps
	}{
		{".", nil, steps{}},
		{"(5:0 . .)", []int64{5}, steps{0, 1}},
		{"(1:0 (2:0 . .) (3:0 . .))", []int64{1, 2, 3}, steps{2, 5}},
		{"(1:0 (2:0 (3:0 . .) .) .)", []int64{3, 2, 1}, steps{2, 5}},
		{"(1:0 (3:0 . .) (2:0 . .))", []int64{1, 3, 2}, steps{2, 5}},
		{"(1:0 (1:0 (1:0 (1:0 . .) .) .) .)", []int64{1, 1, 1, 1}, steps{3, 7}},
		{"(1:0 (3:0 (4:0 . .) (5:0 . .)) (2:0 . .))", []int64{1, 2, 3, 4, 5}, steps{6, 11}},
	}
	for _, r := range rows {
		m := meter.New()
		leftist.Of(m, els(r.l...)...)
		counted(t, "Of", m, r.s)
		p := of(t, els(r.l...)...)
		shows(t, p, r.want)
		emptied(t, "Of", p)
		var one pair
		for _, x := range r.l {
			one = one.insert(t, el(x))
		}
		shows(t, one, r.want)
	}
}

// P6.1: what is handed to Of isn't changed, and isn't kept.
func TestOfKeepsNothing(t *testing.T) {
	l := els(4, 2, 2, 9, -1)
	given := slices.Clone(l)
	h := leftist.Of(nil, l...)
	if !slices.Equal(l, given) {
		t.Errorf("Of changed its list: %v", l)
	}
	clear(l)
	p := pair{h, new(steps).of(given)}
	holds(t, "behind a change of the list", h, p.want)
	emptied(t, "behind a change of the list", p)
}

// P6.2: the left heap, melded with the right one; of equal roots the left one wins.
func TestPop(t *testing.T) {
	rows := []struct {
		want string
		l    []int64
		s    steps
	}{
		{".", []int64{4}, steps{}},
		{"(4:0 . .)", []int64{4, 3}, steps{}},
		{"(2:0 (3:0 . .) .)", []int64{2, 1, 3}, steps{1, 1}},
		{"(2:0 (3:0 . .) .)", []int64{1, 3, 2}, steps{1, 1}},
		{"(2:0 (3:0 (4:0 . .) .) .)", []int64{1, 2, 4, 3}, steps{1, 1}},
		{"(2:0 (4:0 . .) (3:0 . .))", []int64{4, 2, 1, 3}, steps{1, 1}},
		{"(1:0 (2:0 . .) (1:0 . .))", []int64{2, 1, 0, 1}, steps{1, 1}},
		{"(1:0 (2:0 . .) (3:0 . .))", []int64{2, 1, 3, 0}, steps{}},
	}
	for _, r := range rows {
		p := of(t, els(r.l...)...)
		m := meter.New()
		if _, is := p.heap.Pop(m); !is {
			t.Errorf("Pop() of %s: false", p.heap.Show())
		}
		counted(t, "Pop", m, r.s)
		q := p.pop(t)
		shows(t, q, r.want)
		if q.heap.Size() != len(r.l)-1 {
			t.Errorf("Pop() of %s: Size() = %d", p.heap.Show(), q.heap.Size())
		}
		emptied(t, "Pop", p)
	}
}

// P6.2: Min is the root, and takes nothing out.
func TestMin(t *testing.T) {
	p := of(t, els(8, 3, 5, 3, 9)...)
	m := meter.New()
	for range 5 {
		if x, is := p.heap.Min(m); x != el(3) || !is {
			t.Errorf("Min() = %v, %v", x, is)
		}
	}
	counted(t, "Min", m, steps{})
	holds(t, "asked for its least element", p.heap, p.want)
	// A zero element that is there is told as one.
	if x, is := leftist.Of(nil, api.Elem{}, el(1)).Min(m); x != (api.Elem{}) || !is {
		t.Errorf("Min() = %v, %v", x, is)
	}
}

// edges are elements at both ends of what 64 bits hold.
func edges() []api.Elem {
	var l []api.Elem
	for _, p := range []int64{math.MinInt64, math.MinInt64 + 1, -1, 0, 1, math.MaxInt64 - 1, math.MaxInt64} {
		for _, id := range []int64{math.MinInt64, -1, 0, math.MaxInt64} {
			l = append(l, api.Elem{P: p, Id: id})
		}
	}
	return l
}

// P6.1, P6.2, P6.3: elements at both ends of 64 bits are elements as others are.
func TestEdges(t *testing.T) {
	low, high := api.Elem{P: math.MinInt64, Id: math.MaxInt64}, api.Elem{P: math.MaxInt64, Id: math.MinInt64}
	want := "(-9223372036854775808:9223372036854775807 (9223372036854775807:-9223372036854775808 . .) .)"
	shows(t, of(t, low, high), want)
	shows(t, of(t, high, low), want)
	shows(t, of(t, high).meld(t, of(t, low)), want)
	shows(t, of(t, low).meld(t, of(t, high)), want)
	l := edges()
	for first := range l {
		var mixed []api.Elem
		for i := range l {
			mixed = append(mixed, l[(first+i*11)%len(l)])
		}
		p := of(t, mixed...)
		holds(t, "Of the edges", p.heap, p.want)
		emptied(t, "the edges", p)
		half := of(t, mixed[:14]...).meld(t, of(t, mixed[14:]...))
		holds(t, "Meld of the edges", half.heap, half.want)
		emptied(t, "the edges, melded", half)
		if !slices.Equal(half.want.inOrder(), l) {
			t.Fatalf("elements went astray: %s", half.heap.Show())
		}
	}
}

// P6.3: equal elements are there as often as they were put in.
func TestEqualElements(t *testing.T) {
	for n := range 40 {
		same := of(t, slices.Repeat([]api.Elem{el(5)}, n)...)
		holds(t, "equal elements", same.heap, same.want)
		for _, p := range []pair{same, same.insert(t, el(5)), same.insert(t, el(4)), same.insert(t, el(6)), same.meld(t, same), same.meld(t, of(t, els(5, 4, 6, 5)...))} {
			holds(t, "and others", p.heap, p.want)
			emptied(t, "and others", p)
		}
	}
}

// P6.1, P6.3: a heap melded with itself has each element twice, and is there as it was.
func TestMeldWithItself(t *testing.T) {
	p := of(t, els(2, 1, 3)...)
	twice := p.meld(t, p)
	shows(t, p, "(1:0 (2:0 . .) (3:0 . .))")
	shows(t, twice, "(1:0 (1:0 (2:0 . .) (3:0 (3:0 . .) .)) (2:0 . .))")
	if !slices.Equal(twice.want.inOrder(), els(1, 1, 2, 2, 3, 3)) {
		t.Errorf("twice: %s", twice.heap.Show())
	}
	emptied(t, "twice", twice)
	one := of(t, el(4))
	shows(t, one.meld(t, one), "(4:0 (4:0 . .) .)")
	shows(t, one, "(4:0 . .)")
	// Parts of a heap that it shares with one that came of it are melded as those of any other.
	most := p.pop(t)
	for _, q := range []pair{p.meld(t, most), most.meld(t, p), twice.meld(t, p), p.insert(t, el(0)).meld(t, p)} {
		holds(t, "melded with what came of it", q.heap, q.want)
		emptied(t, "melded with what came of it", q)
	}
	shows(t, p, "(1:0 (2:0 . .) (3:0 . .))")
}

// P6.1, P6.2, P6.3: every way to put in up to 6 elements, and to take them out again.
func TestAllSmall(t *testing.T) {
	for n := range 7 {
		for code := range 1 << (2 * n) {
			var l []api.Elem
			for i := range n {
				l = append(l, el(int64(code>>(2*i)&3)))
			}
			p := of(t, l...)
			holds(t, "Of a few", p.heap, p.want)
			if n == 6 && code%17 != 0 {
				continue
			}
			emptied(t, "a few", p)
			for i := range n {
				q := of(t, l[:i]...).meld(t, of(t, l[i:]...))
				holds(t, "Meld of a few", q.heap, q.want)
			}
		}
	}
}

// versions makes heaps of heaps, and fails unless each is what it has to be, when it is made and at the end.
func versions(t *testing.T, rounds int, x func(n int) api.Elem) []pair {
	t.Helper()
	all := []pair{{}, of(t, x(0)), of(t, x(1), x(2), x(3))}
	for n := range rounds {
		a, b := all[n*7919%len(all)], all[n*104729%len(all)]
		made := []pair{a.insert(t, x(n)), a.meld(t, b), b.meld(t, a), a.meld(t, a), a.pop(t), b.pop(t), b.insert(t, x(n+1)), of(t, x(n), x(n+2), x(n+5))}
		for _, p := range made {
			holds(t, "just made", p.heap, p.want)
			// Heaps that are melded with themselves would double without end.
			if p.heap.Size() <= 60 {
				all = append(all, p)
			}
		}
		holds(t, "what it came of", a.heap, a.want)
		holds(t, "the other one", b.heap, b.want)
	}
	return all
}

// P6.3: whatever is done with heaps from which others were made, each stays as it is, and all that is in it can be taken out.
func TestVersionsStay(t *testing.T) {
	elements := []func(n int) api.Elem{
		func(n int) api.Elem { return api.Elem{P: int64(n*31%11) - 5, Id: int64(n % 3)} },
		func(n int) api.Elem { return el(int64(n * 17 % 4)) },
		func(n int) api.Elem { return el(int64(-n)) },
		func(n int) api.Elem { return api.Elem{P: int64(n), Id: int64(-n)} },
		func(n int) api.Elem { return edges()[n*13%28] },
	}
	for _, x := range elements {
		all := versions(t, 120, x)
		for i, p := range all {
			if i%7 == 0 {
				emptied(t, "at the end", p)
			}
		}
		for _, p := range all {
			holds(t, "at the end", p.heap, p.want)
		}
	}
}

// P6.1, P6.2: one meter counts all calls together, and Min, Size and Show take no step.
func TestStepsTogether(t *testing.T) {
	m := meter.New()
	a := leftist.Of(m, els(2, 1, 3)...)
	counted(t, "Of", m, steps{2, 5})
	b := a.Insert(m, el(0))
	counted(t, "and Insert", m, steps{3, 7})
	c := b.Meld(m, leftist.Of(nil, el(5)))
	counted(t, "and Meld", m, steps{4, 8})
	d, _ := c.Pop(m)
	counted(t, "and Pop", m, steps{6, 10})
	for _, h := range []leftist.Heap{{}, a, b, c, d} {
		h.Min(m)
		h.Size()
		if h.Show() == "" {
			t.Error("Show() is empty")
		}
	}
	counted(t, "and asks", m, steps{6, 10})
	if got := m.Steps(); got != 16 {
		t.Errorf("Steps() = %d", got)
	}
}

// P6.1, P6.2, P6.3: a heap whose left heaps lie one below the other very deep is a heap as others are.
func TestDeep(t *testing.T) {
	const n = 1 << 16
	m := meter.New()
	var deep leftist.Heap
	for i := range int64(n) {
		deep = deep.Insert(m, el(-i))
	}
	counted(t, "each ahead of all", m, steps{n - 1, 2*n - 1})
	if deep.Size() != n {
		t.Errorf("Size() = %d", deep.Size())
	}
	s := deep.Show()
	if strings.Count(s, ":") != n || !strings.HasPrefix(s, "(-65535:0 (-65534:0 (") || !strings.HasSuffix(s, "(-1:0 (0:0 . .) .)"+strings.Repeat(" .)", n-2)) {
		t.Errorf("a text of %d bytes", len(s))
	}
	h := deep
	for i := range int64(n) {
		if x, is := h.Min(nil); x != el(i-n+1) || !is {
			t.Fatalf("%d popped: Min() = %v, %v", i, x, is)
		}
		h, _ = h.Pop(m)
	}
	counted(t, "and Pop of all", m, steps{n - 1, 2*n - 1})
	if h.Show() != "." || deep.Size() != n {
		t.Errorf("all popped: %s, of %d", h.Show(), deep.Size())
	}
}

// P6.1, P6.2, P6.3: many elements, in an order of their own, come out in order, by as many steps as the model's.
func TestMany(t *testing.T) {
	const n = 1 << 12
	var l []api.Elem
	for i := range int64(n) {
		l = append(l, api.Elem{P: i * 2741 % 4099 % 511, Id: i % 5})
	}
	p := of(t, l...)
	holds(t, "many", p.heap, p.want)
	half := of(t, l[:n/2]...).meld(t, of(t, l[n/2:]...))
	holds(t, "many, melded", half.heap, half.want)
	slices.SortFunc(l, order)
	var s steps
	m := meter.New()
	h, want := half.heap, half.want
	for i, x := range l {
		if got, is := h.Min(m); got != x || !is || h.Size() != n-i {
			t.Fatalf("%d popped: Min() = %v, %v, want %v; Size() = %d", i, got, is, x, h.Size())
		}
		h, _ = h.Pop(m)
		want = s.meld(want.left, want.right)
	}
	counted(t, "Pop of many", m, s)
	holds(t, "many, melded, and popped", half.heap, half.want)
}

// P6.1, P6.2: of 2^31 elements too, which are one melded with itself again and again, all is told.
func TestTwiceAndTwice(t *testing.T) {
	h, want := leftist.Of(nil, els(2, 1, 3)...), new(steps).of(els(2, 1, 3))
	var s steps
	m := meter.New()
	size := 3
	for size <= 1<<30 {
		h, want = h.Meld(m, h), s.meld(want, want)
		size *= 2
		if x, is := h.Min(m); x != el(1) || !is || h.Size() != size {
			t.Fatalf("Min() = %v, %v, Size() = %d, want %d", x, is, h.Size(), size)
		}
	}
	counted(t, "Meld with itself", m, s)
	for i := range 5000 {
		h, _ = h.Pop(m)
		want = s.meld(want.left, want.right)
		if x, is := h.Min(m); x != want.root || !is || h.Size() != size-1-i {
			t.Fatalf("Min() = %v, %v, Size() = %d", x, is, h.Size())
		}
	}
	counted(t, "and Pop", m, s)
}
