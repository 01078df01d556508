package binomial_test

import (
	"math"
	"math/bits"
	"slices"
	"strconv"
	"testing"

	"slagheap/api"
	"slagheap/binomial"
	"slagheap/meter"
)

// model is a heap as the document tells it, written without the package's own calls: its trees, of rising ranks.
type model []*branch

// branch is a tree: its root, and its kids, the greatest one first, so many as its rank.
type branch struct {
	root api.Elem
	kids []*branch
}

// steps is how many comparisons a model takes, and how many things made.
type steps struct{ compared, made int }

// less is the order of elements, by what the document says of it.
func less(a, b api.Elem) bool { return a.P < b.P || a.P == b.P && a.Id < b.Id }

// order is how two elements stand, for the library's sorting.
func order(a, b api.Elem) int {
	if less(a, b) {
		return -1
	}
	if less(b, a) {
		return 1
	}
	return 0
}

func (b *branch) rank() int { return len(b.kids) }

func (b *branch) show() string {
	p, id := strconv.FormatInt(b.root.P, 10), strconv.FormatInt(b.root.Id, 10)
	s := "(" + p + ":" + id
	for _, kid := range b.kids {
		s += " " + kid.show()
	}
	return s + ")"
}

func (k model) all() []api.Elem {
	var l []api.Elem
	for _, b := range k {
		l = append(append(l, b.root), model(b.kids).all()...)
	}
	return l
}

// inOrder is all elements of a model, the least one first.
func (k model) inOrder() []api.Elem {
	l := k.all()
	slices.SortFunc(l, order)
	return l
}

func (k model) show() string {
	if len(k) == 0 {
		return "."
	}
	s := k[0].show()
	for _, b := range k[1:] {
		s += " " + b.show()
	}
	return s
}

// leaf is a tree of an element alone.
func (s *steps) leaf(x api.Elem) *branch {
	s.made++
	return &branch{root: x}
}

// link is one tree of two: the second one is the winner just if its root stands ahead.
func (s *steps) link(a, b *branch) *branch {
	s.compared++
	s.made++
	if less(b.root, a.root) {
		a, b = b, a
	}
	return &branch{a.root, slices.Concat([]*branch{b}, a.kids)}
}

// ahead is a tree put ahead of trees.
func (s *steps) ahead(b *branch, k model) model {
	if len(k) > 0 && k[0].rank() == b.rank() {
		return s.ahead(s.link(b, k[0]), k[1:])
	}
	return slices.Concat(model{b}, k)
}

func (s *steps) insert(k model, x api.Elem) model { return s.ahead(s.leaf(x), k) }

func (s *steps) meld(h, o model) model {
	if len(h) == 0 {
		return o
	}
	if len(o) == 0 {
		return h
	}
	f, g := h[0], o[0]
	if f.rank() < g.rank() {
		return slices.Concat(model{f}, s.meld(h[1:], o))
	}
	if g.rank() < f.rank() {
		return slices.Concat(model{g}, s.meld(h, o[1:]))
	}
	rest := s.meld(h[1:], o[1:])
	return s.ahead(s.link(f, g), rest)
}

// least is the place of the tree with the least root, the first one of several.
func (s *steps) least(k model) int {
	place := 0
	for i := 1; i < len(k); i++ {
		s.compared++
		if less(k[i].root, k[place].root) {
			place = i
		}
	}
	return place
}

func (s *steps) pop(k model) model {
	if len(k) == 0 {
		return nil
	}
	i := s.least(k)
	kids := slices.Clone(k[i].kids)
	slices.Reverse(kids)
	return s.meld(kids, slices.Concat(k[:i], k[i+1:]))
}

func (s *steps) of(l []api.Elem) model {
	var k model
	for _, x := range l {
		k = s.insert(k, x)
	}
	return k
}

// pair is a heap, and what it has to be for ever.
type pair struct {
	heap binomial.Heap
	want model
}

// counted fails, unless so many comparisons and things made were counted since the meter was new.
func counted(t *testing.T, what string, m *meter.Meter, want steps) {
	t.Helper()
	if c, n := m.Split(); c != want.compared || n != want.made {
		t.Fatalf("%s: %d comparisons, %d made, want %d, %d", what, c, n, want.compared, want.made)
	}
}

// of is Of by a meter of its own, and without one.
func of(t *testing.T, l ...api.Elem) pair {
	t.Helper()
	var s steps
	m := meter.New()
	p := pair{binomial.Of(m, l...), s.of(l)}
	counted(t, "Of", m, s)
	holds(t, "Of without a meter", binomial.Of(nil, l...), p.want)
	return p
}

// insert is Insert by a meter of its own, and without one.
func (p pair) insert(t *testing.T, x api.Elem) pair {
	t.Helper()
	var s steps
	m := meter.New()
	q := pair{p.heap.Insert(m, x), s.insert(p.want, x)}
	counted(t, "Insert", m, s)
	holds(t, "Insert without a meter", p.heap.Insert(nil, x), q.want)
	return q
}

// meld is Meld by a meter of its own, and without one.
func (p pair) meld(t *testing.T, o pair) pair {
	t.Helper()
	var s steps
	m := meter.New()
	q := pair{p.heap.Meld(m, o.heap), s.meld(p.want, o.want)}
	counted(t, "Meld", m, s)
	holds(t, "Meld without a meter", p.heap.Meld(nil, o.heap), q.want)
	return q
}

// pop is Pop by a meter of its own, and without one.
func (p pair) pop(t *testing.T) pair {
	t.Helper()
	var s steps
	want := s.pop(p.want)
	m := meter.New()
	h, is := p.heap.Pop(m)
	counted(t, "Pop", m, s)
	again, isAgain := p.heap.Pop(nil)
	if is != (len(p.want) > 0) || isAgain != is {
		t.Fatalf("Pop() of %s: %v, without a meter %v", p.want.show(), is, isAgain)
	}
	holds(t, "Pop without a meter", again, want)
	return pair{h, want}
}

// holds fails, unless all that a heap tells is that it is just this one, and asking for it takes no step but Min's.
func holds(t *testing.T, what string, h binomial.Heap, want model) {
	t.Helper()
	var s steps
	var root api.Elem
	if len(want) > 0 {
		root = want[s.least(want)].root
	}
	m := meter.New()
	least, is := h.Min(m)
	if again, isAgain := h.Min(nil); least != root || again != root || is != (len(want) > 0) || isAgain != is {
		t.Fatalf("%s: Min() = %v, %v, without a meter %v, %v, want %v, %v", what, least, is, again, isAgain, root, len(want) > 0)
	}
	if got := h.Size(); got != len(want.all()) {
		t.Fatalf("%s: Size() = %d, want %d", what, got, len(want.all()))
	}
	if got := h.Show(); got != want.show() {
		t.Fatalf("%s: Show() = %s, want %s", what, got, want.show())
	}
	counted(t, what+", Min, Size and Show", m, s)
	bitwise(t, what, h)
}

// bitwise fails, unless a heap has a tree of rank r just if 2 to the power of r is a bit of how many elements it has, by what its text tells.
func bitwise(t *testing.T, what string, h binomial.Heap) {
	t.Helper()
	var sizes, want []int
	open, size := 0, 0
	for _, c := range h.Show() {
		switch c {
		case '(':
			open++
			size++
		case ')':
			open--
		}
		if open == 0 && size > 0 {
			sizes = append(sizes, size)
			size = 0
		}
	}
	for rest := uint(h.Size()); rest > 0; rest &= rest - 1 {
		want = append(want, 1<<bits.TrailingZeros(rest))
	}
	if !slices.Equal(sizes, want) {
		t.Fatalf("%s: trees of %v elements, want %v", what, sizes, want)
	}
}

// emptied fails, unless Pop after Pop tells all elements of a heap, in order, and then that there is none.
func emptied(t *testing.T, what string, p pair) {
	t.Helper()
	h := p
	for i, want := range p.want.inOrder() {
		if got, is := h.heap.Min(nil); got != want || !is {
			t.Fatalf("%s: %d popped of %s: Min() = %v, %v, want %v", what, i, p.want.show(), got, is, want)
		}
		h = h.pop(t)
	}
	if h.heap.Size() != 0 || h.heap.Show() != "." {
		t.Fatalf("%s: all popped: Size() = %d, Show() = %s", what, h.heap.Size(), h.heap.Show())
	}
	holds(t, what+", from which all was popped", p.heap, p.want)
}

// shows fails, unless a heap is as the document tells it, and its text is this one, written out.
func shows(t *testing.T, p pair, want string) {
	t.Helper()
	if got := p.heap.Show(); got != want {
		t.Errorf("Show() = %s, want %s", got, want)
	}
	holds(t, want, p.heap, p.want)
}

// el is the element p:0.
func el(p int64) api.Elem { return api.Elem{P: p} }

// els are the elements p:0.
func els(ps ...int64) []api.Elem {
	var l []api.Elem
	for _, p := range ps {
		l = append(l, el(p))
	}
	return l
}

// some are so many elements, in an order of their own.
func some(n int) []api.Elem {
	var l []api.Elem
	for i := range int64(n) {
		l = append(l, api.Elem{P: i * 37 % 23, Id: i % 3})
	}
	return l
}

// P7.1, P7.2: Of 2:0, 1:0, 3:0: 5 steps.
func TestExample(t *testing.T) {
	m := meter.New()
	h := binomial.Of(m, el(2), el(1), el(3))
	if got := h.Show(); got != "(3:0) (1:0 (2:0))" {
		t.Errorf("Show() = %s", got)
	}
	if got := m.Steps(); got != 5 {
		t.Errorf("Steps() = %d", got)
	}
	counted(t, "Of", m, steps{1, 4})
	p := of(t, els(2, 1, 3)...)
	shows(t, p, "(3:0) (1:0 (2:0))")
	emptied(t, "the example", p)
}

// P7.1, P7.2: of no elements is the empty heap, whoever makes it; it tells nothing, and takes no step.
func TestEmpty(t *testing.T) {
	var zero binomial.Heap
	empty := []pair{{}, {zero, nil}, of(t), of(t, []api.Elem{}...), of(t, el(4)).pop(t), pair{}.pop(t), pair{}.meld(t, pair{})}
	for _, p := range empty {
		shows(t, p, ".")
		m := meter.New()
		if x, is := p.heap.Min(m); x != (api.Elem{}) || is {
			t.Errorf("Min() of none = %v, %v", x, is)
		}
		if h, is := p.heap.Pop(m); is || h.Size() != 0 || h.Show() != "." {
			t.Errorf("Pop() of none = %s, %v", h.Show(), is)
		}
		if p.heap.Size() != 0 {
			t.Errorf("Size() of none = %d", p.heap.Size())
		}
		counted(t, "Min, Pop and Size of none", m, steps{})
		shows(t, p.insert(t, el(7)), "(7:0)")
		shows(t, p.pop(t), ".")
		emptied(t, "none", p)
	}
}

// P7.1: Meld where one has no trees is the other one, where both have none is none: no steps.
func TestMeldOfEmpty(t *testing.T) {
	for _, l := range [][]api.Elem{nil, els(5), els(2, 1, 3), els(3, 3, 3, 3), some(13)} {
		p := of(t, l...)
		for _, none := range []pair{{}, of(t), of(t, el(0)).pop(t)} {
			m := meter.New()
			ahead, behind := p.heap.Meld(m, none.heap), none.heap.Meld(m, p.heap)
			counted(t, "Meld where one is empty", m, steps{})
			holds(t, "Meld, the second one empty", ahead, p.want)
			holds(t, "Meld, the first one empty", behind, p.want)
			holds(t, "Meld of empty, without a meter", p.heap.Meld(nil, none.heap), p.want)
			holds(t, "Meld of empty and a heap, without a meter", none.heap.Meld(nil, p.heap), p.want)
			shows(t, none, ".")
			emptied(t, "Meld of empty", pair{ahead, p.want})
		}
	}
}

// P7.1: the first tree of lesser rank stands ahead, whichever heap has it; two of one rank are linked, and put ahead of what the rest gives.
func TestMeld(t *testing.T) {
	rows := []struct {
		what, want string
		h, o       []int64
		s          steps
	}{
		{"the first one's rank is less", "(9:0) (1:0 (2:0))", []int64{9}, []int64{2, 1}, steps{}},
		{"the first one's rank is greater", "(9:0) (1:0 (2:0))", []int64{2, 1}, []int64{9}, steps{}},
		{"one rank, the first one ahead", "(1:0 (2:0))", []int64{1}, []int64{2}, steps{1, 1}},
		{"one rank, the second one ahead", "(1:0 (2:0))", []int64{2}, []int64{1}, steps{1, 1}},
		{"ranks in turn", "(9:0) (3:0 (4:0)) (0:0 (5:0 (6:0)) (7:0))", []int64{6, 5, 7, 0, 9}, []int64{4, 3}, steps{}},
		{"one rank, then no more", "(1:0 (2:0)) (4:0 (5:0 (6:0)) (7:0))", []int64{1}, []int64{6, 5, 7, 4, 2}, steps{1, 1}},
		{"one rank twice, nothing carries on", "(1:0 (2:0)) (3:0 (4:0 (6:0)) (5:0))", []int64{5, 3, 1}, []int64{6, 4, 2}, steps{2, 2}},
		{"what is linked carries on", "(1:0 (2:0 (3:0)) (5:0))", []int64{1}, []int64{3, 2, 5}, steps{2, 2}},
		{"what is linked carries on, the rest ahead", "(2:0 (4:0 (5:0)) (3:0))", []int64{5}, []int64{3, 2, 4}, steps{2, 2}},
		{"the same, from the other heap", "(1:0 (2:0 (3:0)) (5:0))", []int64{3, 2, 5}, []int64{1}, steps{2, 2}},
		{"both trees of the one linked with both of the other", "(1:0 (9:0)) (0:0 (2:0 (4:0 (5:0)) (3:0)) (6:0 (7:0)) (8:0))", []int64{5, 4, 3, 2, 1}, []int64{7, 6, 8, 0, 9}, steps{2, 2}},
	}
	for _, r := range rows {
		h, o := of(t, els(r.h...)...), of(t, els(r.o...)...)
		m := meter.New()
		h.heap.Meld(m, o.heap)
		counted(t, r.what, m, r.s)
		p := h.meld(t, o)
		if got := p.heap.Show(); got != r.want {
			t.Errorf("%s: Show() = %s, want %s", r.what, got, r.want)
		}
		holds(t, r.what, p.heap, p.want)
		emptied(t, r.what, p)
		holds(t, r.what, h.heap, h.want)
		holds(t, r.what, o.heap, o.want)
	}
}

// P7.1: of two roots of which neither stands ahead, the tree of the heap that is asked wins.
func TestMeldOfEqualRoots(t *testing.T) {
	a, b := of(t, els(5, 1)...), of(t, els(6, 1)...)
	shows(t, a.meld(t, b), "(1:0 (1:0 (6:0)) (5:0))")
	shows(t, b.meld(t, a), "(1:0 (1:0 (5:0)) (6:0))")
	emptied(t, "equal roots", a.meld(t, b))
	// What is linked wins over the rest into which it carries on, whichever heap that came of.
	one, many := of(t, el(1)), of(t, els(7, 1, 5)...)
	shows(t, many, "(5:0) (1:0 (7:0))")
	shows(t, one.meld(t, many), "(1:0 (1:0 (7:0)) (5:0))")
	shows(t, many.meld(t, one), "(1:0 (1:0 (7:0)) (5:0))")
	emptied(t, "equal roots, carried on", many.meld(t, one))
	// The Id tells, where the P doesn't.
	c, d := of(t, el(5), api.Elem{P: 1, Id: -1}), of(t, el(6), api.Elem{P: 1, Id: -2})
	shows(t, c.meld(t, d), "(1:-2 (1:-1 (5:0)) (6:0))")
	shows(t, d.meld(t, c), "(1:-2 (1:-1 (5:0)) (6:0))")
}

// P7.1: a leaf of the element put ahead; of equal roots the tree that is put in wins.
func TestInsert(t *testing.T) {
	rows := []struct {
		what, want string
		l          []int64
		x          int64
		s          steps
	}{
		{"into the empty heap", "(3:0)", nil, 3, steps{0, 1}},
		{"ahead of one", "(1:0 (3:0))", []int64{3}, 1, steps{1, 2}},
		{"behind one", "(3:0 (4:0))", []int64{3}, 4, steps{1, 2}},
		{"into an even heap", "(9:0) (1:0 (3:0))", []int64{3, 1}, 9, steps{0, 1}},
		{"ahead of all", "(0:0 (1:0 (2:0)) (3:0))", []int64{2, 1, 3}, 0, steps{2, 3}},
		{"behind all", "(1:0 (3:0 (9:0)) (2:0))", []int64{2, 1, 3}, 9, steps{2, 3}},
		{"as the root of the other tree", "(1:0 (1:0 (7:0)) (5:0))", []int64{7, 1, 5}, 1, steps{2, 3}},
		{"as the root of the tree that it carries on into", "(1:0 (1:0 (7:0)) (1:0))", []int64{7, 1, 1}, 1, steps{2, 3}},
		{"up to a tree that it doesn't reach", "(5:0 (6:0)) (1:0 (3:0 (4:0)) (2:0))", []int64{4, 3, 2, 1, 6}, 5, steps{1, 2}},
	}
	for _, r := range rows {
		p := of(t, els(r.l...)...)
		m := meter.New()
		p.heap.Insert(m, el(r.x))
		counted(t, "Insert "+r.what, m, r.s)
		q := p.insert(t, el(r.x))
		if got := q.heap.Show(); got != r.want {
			t.Errorf("Insert %s: Show() = %s, want %s", r.what, got, r.want)
		}
		shows(t, q, r.want)
		emptied(t, "Insert "+r.what, q)
		holds(t, "Insert "+r.what, p.heap, p.want)
	}
}

// P7.1, P7.3: where all bits are full, an element carries on through all trees; where the lowest one is not, through none.
func TestInsertCarriesOn(t *testing.T) {
	for k := range 10 {
		full := of(t, some(1<<k-1)...)
		for _, x := range []api.Elem{el(-1), el(11), el(99), {P: 5, Id: 1}} {
			m := meter.New()
			full.heap.Insert(m, x)
			counted(t, "Insert where all is full", m, steps{k, k + 1})
			one := full.insert(t, x)
			holds(t, "Insert where all is full", one.heap, one.want)
			m = meter.New()
			one.heap.Insert(m, x)
			if k > 0 {
				counted(t, "and again", m, steps{0, 1})
			}
			two := one.insert(t, x)
			holds(t, "and again", two.heap, two.want)
		}
		holds(t, "Insert where all is full", full.heap, full.want)
	}
}

// P7.1: Of is one Insert after the other, in order, into the empty heap.
func TestOf(t *testing.T) {
	rows := []struct {
		want string
		l    []int64
	}{
		{".", nil},
		{"(5:0)", []int64{5}},
		{"(1:0 (2:0))", []int64{1, 2}},
		{"(1:0 (2:0))", []int64{2, 1}},
		{"(3:0) (1:0 (2:0))", []int64{1, 2, 3}},
		{"(1:0) (2:0 (3:0))", []int64{3, 2, 1}},
		{"(1:0 (3:0 (4:0)) (2:0))", []int64{1, 2, 3, 4}},
		{"(1:0 (3:0 (4:0)) (2:0))", []int64{4, 3, 2, 1}},
		{"(5:0) (1:0 (1:0 (1:0)) (1:0))", []int64{1, 1, 1, 1, 5}},
		{"(7:0) (5:0 (6:0)) (1:0 (3:0 (4:0)) (2:0))", []int64{1, 2, 3, 4, 5, 6, 7}},
		{"(1:0 (5:0 (7:0 (8:0)) (6:0)) (3:0 (4:0)) (2:0))", []int64{1, 2, 3, 4, 5, 6, 7, 8}},
	}
	for _, r := range rows {
		p := of(t, els(r.l...)...)
		shows(t, p, r.want)
		emptied(t, "Of", p)
		var one pair
		for _, x := range r.l {
			one = one.insert(t, el(x))
		}
		shows(t, one, r.want)
	}
}

// P7.1, P7.3: a heap of n elements has trees as n has bits, and each tree more is one link less.
func TestOfSteps(t *testing.T) {
	for n := range 300 {
		l := some(n)
		m := meter.New()
		h := binomial.Of(m, l...)
		links := n - bits.OnesCount(uint(n))
		counted(t, "Of", m, steps{links, n + links})
		bitwise(t, "Of", h)
		if h.Size() != n {
			t.Errorf("Size() = %d, want %d", h.Size(), n)
		}
		m = meter.New()
		if _, is := h.Min(m); is != (n > 0) {
			t.Errorf("Min() of %d: %v", n, is)
		}
		counted(t, "Min", m, steps{compared: max(bits.OnesCount(uint(n))-1, 0)})
	}
}

// P7.1: what is handed to Of isn't changed, and isn't kept.
func TestOfKeepsNothing(t *testing.T) {
	l := els(4, 2, 2, 9, -1)
	given := slices.Clone(l)
	h := binomial.Of(nil, l...)
	if !slices.Equal(l, given) {
		t.Errorf("Of changed its list: %v", l)
	}
	clear(l)
	p := pair{h, new(steps).of(given)}
	holds(t, "behind a change of the list", h, p.want)
	emptied(t, "behind a change of the list", p)
}

// P7.2: the least root's kids, the other way round, melded with the other trees, the kids being the heap that is asked.
func TestPop(t *testing.T) {
	rows := []struct {
		what, was, want string
		l               []int64
		s               steps
	}{
		{"one element", "(4:0)", ".", []int64{4}, steps{}},
		{"one tree", "(1:0 (2:0))", "(2:0)", []int64{2, 1}, steps{}},
		{"one tree of many kids", "(1:0 (5:0 (7:0 (8:0)) (6:0)) (3:0 (4:0)) (2:0))", "(2:0) (3:0 (4:0)) (5:0 (7:0 (8:0)) (6:0))", []int64{1, 2, 3, 4, 5, 6, 7, 8}, steps{}},
		{"the first of two trees", "(1:0) (2:0 (3:0))", "(2:0 (3:0))", []int64{3, 2, 1}, steps{1, 0}},
		{"the last of two trees", "(3:0) (1:0 (2:0))", "(2:0 (3:0))", []int64{2, 1, 3}, steps{2, 1}},
		{"the one in the middle", "(9:0) (0:0 (8:0)) (1:0 (3:0 (4:0)) (2:0))", "(8:0 (9:0)) (1:0 (3:0 (4:0)) (2:0))", []int64{1, 2, 3, 4, 8, 0, 9}, steps{3, 1}},
		{"equal roots: the first one", "(1:0) (1:0 (5:0))", "(1:0 (5:0))", []int64{5, 1, 1}, steps{1, 0}},
		{"equal roots behind a greater one", "(9:0) (1:0 (8:0)) (1:0 (3:0 (4:0)) (2:0))", "(8:0 (9:0)) (1:0 (3:0 (4:0)) (2:0))", []int64{4, 3, 2, 1, 8, 1, 9}, steps{3, 1}},
		{"a kid and another tree of equal roots: the kid", "(2:0 (8:0)) (1:0 (2:0 (9:0)) (7:0))", "(7:0) (2:0 (2:0 (8:0)) (9:0))", []int64{9, 2, 7, 1, 8, 2}, steps{2, 1}},
	}
	for _, r := range rows {
		p := of(t, els(r.l...)...)
		shows(t, p, r.was)
		m := meter.New()
		if _, is := p.heap.Pop(m); !is {
			t.Errorf("%s: Pop() of %s: false", r.what, p.heap.Show())
		}
		counted(t, "Pop, "+r.what, m, r.s)
		q := p.pop(t)
		if got := q.heap.Show(); got != r.want {
			t.Errorf("%s: Show() = %s, want %s", r.what, got, r.want)
		}
		shows(t, q, r.want)
		if q.heap.Size() != len(r.l)-1 {
			t.Errorf("Pop() of %s: Size() = %d", p.heap.Show(), q.heap.Size())
		}
		emptied(t, "Pop", p)
	}
}

// P7.2: Min is the least root, by a comparison for each tree but the first one, and takes nothing out.
func TestMin(t *testing.T) {
	p := of(t, els(8, 3, 5, 3, 9, 4, 2)...)
	shows(t, p, "(2:0) (4:0 (9:0)) (3:0 (3:0 (8:0)) (5:0))")
	m := meter.New()
	for i := range 5 {
		if x, is := p.heap.Min(m); x != el(2) || !is {
			t.Errorf("Min() = %v, %v", x, is)
		}
		counted(t, "Min", m, steps{compared: 2 * (i + 1)})
	}
	holds(t, "asked for its least element", p.heap, p.want)
	// Wherever it stands, it is told.
	for i := range 7 {
		l := els(4, 4, 4, 4, 4, 4, 4)
		l[i] = el(3)
		if x, is := binomial.Of(nil, l...).Min(nil); x != el(3) || !is {
			t.Errorf("Min() = %v, %v", x, is)
		}
	}
	// A zero element that is there is told as one.
	if x, is := binomial.Of(nil, api.Elem{}, el(1)).Min(m); x != (api.Elem{}) || !is {
		t.Errorf("Min() = %v, %v", x, is)
	}
	if x, is := binomial.Of(nil, el(1), el(2), el(3)).Min(nil); x != el(1) || !is {
		t.Errorf("Min() = %v, %v", x, is)
	}
}

// edges are elements at both ends of what 64 bits hold.
func edges() []api.Elem {
	var l []api.Elem
	for _, p := range []int64{math.MinInt64, math.MinInt64 + 1, -1, 0, 1, math.MaxInt64 - 1, math.MaxInt64} {
		for _, id := range []int64{math.MinInt64, -1, 0, math.MaxInt64} {
			l = append(l, api.Elem{P: p, Id: id})
		}
	}
	return l
}

// P7.1, P7.2, P7.3: elements at both ends of 64 bits are elements as others are.
func TestEdges(t *testing.T) {
	low, high := api.Elem{P: math.MinInt64, Id: math.MaxInt64}, api.Elem{P: math.MaxInt64, Id: math.MinInt64}
	want := "(-9223372036854775808:9223372036854775807 (9223372036854775807:-9223372036854775808))"
	shows(t, of(t, low, high), want)
	shows(t, of(t, high, low), want)
	shows(t, of(t, high).meld(t, of(t, low)), want)
	shows(t, of(t, low).meld(t, of(t, high)), want)
	l := edges()
	for first := range l {
		var mixed []api.Elem
		for i := range l {
			mixed = append(mixed, l[(first+i*11)%len(l)])
		}
		p := of(t, mixed...)
		holds(t, "Of the edges", p.heap, p.want)
		emptied(t, "the edges", p)
		half := of(t, mixed[:14]...).meld(t, of(t, mixed[14:]...))
		holds(t, "Meld of the edges", half.heap, half.want)
		emptied(t, "the edges, melded", half)
		if !slices.Equal(half.want.inOrder(), l) {
			t.Fatalf("elements went astray: %s", half.heap.Show())
		}
	}
}

// P7.3: equal elements are there as often as they were put in.
func TestEqualElements(t *testing.T) {
	for n := range 40 {
		same := of(t, slices.Repeat([]api.Elem{el(5)}, n)...)
		holds(t, "equal elements", same.heap, same.want)
		for _, p := range []pair{same, same.insert(t, el(5)), same.insert(t, el(4)), same.insert(t, el(6)), same.meld(t, same), same.meld(t, of(t, els(5, 4, 6, 5)...))} {
			holds(t, "and others", p.heap, p.want)
			emptied(t, "and others", p)
		}
	}
}

// P7.1, P7.3: a heap melded with itself has each element twice, and is there as it was.
func TestMeldWithItself(t *testing.T) {
	p := of(t, els(2, 1, 3)...)
	twice := p.meld(t, p)
	shows(t, p, "(3:0) (1:0 (2:0))")
	shows(t, twice, "(3:0 (3:0)) (1:0 (1:0 (2:0)) (2:0))")
	if !slices.Equal(twice.want.inOrder(), els(1, 1, 2, 2, 3, 3)) {
		t.Errorf("twice: %s", twice.heap.Show())
	}
	emptied(t, "twice", twice)
	one := of(t, el(4))
	shows(t, one.meld(t, one), "(4:0 (4:0))")
	shows(t, one, "(4:0)")
	// Trees of a heap that it shares with one that came of it are melded as those of any other.
	most := p.pop(t)
	for _, q := range []pair{p.meld(t, most), most.meld(t, p), twice.meld(t, p), p.insert(t, el(0)).meld(t, p)} {
		holds(t, "melded with what came of it", q.heap, q.want)
		emptied(t, "melded with what came of it", q)
	}
	shows(t, p, "(3:0) (1:0 (2:0))")
}

// P7.1, P7.2, P7.3: every way to put in up to 6 elements, and to take them out again.
func TestAllSmall(t *testing.T) {
	for n := range 7 {
		for code := range 1 << (2 * n) {
			var l []api.Elem
			for i := range n {
				l = append(l, el(int64(code>>(2*i)&3)))
			}
			p := of(t, l...)
			holds(t, "Of a few", p.heap, p.want)
			if n == 6 && code%17 != 0 {
				continue
			}
			emptied(t, "a few", p)
			for i := range n {
				q := of(t, l[:i]...).meld(t, of(t, l[i:]...))
				holds(t, "Meld of a few", q.heap, q.want)
			}
		}
	}
}

// versions makes heaps of heaps, and fails unless each is what it has to be, when it is made and at the end.
func versions(t *testing.T, rounds int, x func(n int) api.Elem) []pair {
	t.Helper()
	all := []pair{{}, of(t, x(0)), of(t, x(1), x(2), x(3))}
	for n := range rounds {
		a, b := all[n*7919%len(all)], all[n*104729%len(all)]
		made := []pair{a.insert(t, x(n)), a.meld(t, b), b.meld(t, a), a.meld(t, a), a.pop(t), b.pop(t), b.insert(t, x(n+1)), of(t, x(n), x(n+2), x(n+5))}
		for _, p := range made {
			holds(t, "just made", p.heap, p.want)
			// Heaps that are melded with themselves would double without end.
			if p.heap.Size() <= 60 {
				all = append(all, p)
			}
		}
		holds(t, "what it came of", a.heap, a.want)
		holds(t, "the other one", b.heap, b.want)
	}
	return all
}

// P7.3: whatever is done with heaps from which others were made, each stays as it is, and all that is in it can be taken out.
func TestVersionsStay(t *testing.T) {
	elements := []func(n int) api.Elem{
		func(n int) api.Elem { return api.Elem{P: int64(n*31%11) - 5, Id: int64(n % 3)} },
		func(n int) api.Elem { return el(int64(n * 17 % 4)) },
		func(n int) api.Elem { return el(int64(-n)) },
		func(n int) api.Elem { return api.Elem{P: int64(n), Id: int64(-n)} },
		func(n int) api.Elem { return edges()[n*13%28] },
	}
	for _, x := range elements {
		all := versions(t, 120, x)
		for i, p := range all {
			if i%7 == 0 {
				emptied(t, "at the end", p)
			}
		}
		for _, p := range all {
			holds(t, "at the end", p.heap, p.want)
		}
	}
}

// P7.1, P7.2: one meter counts all calls together, and Size and Show take no step.
func TestStepsTogether(t *testing.T) {
	m := meter.New()
	a := binomial.Of(m, els(2, 1, 3)...)
	counted(t, "Of", m, steps{1, 4})
	b := a.Insert(m, el(0))
	counted(t, "and Insert", m, steps{3, 7})
	c := b.Insert(m, el(5))
	counted(t, "and Insert into an even heap", m, steps{3, 8})
	d := c.Meld(m, binomial.Of(nil, el(4)))
	counted(t, "and Meld", m, steps{4, 9})
	e, _ := d.Pop(m)
	counted(t, "and Pop", m, steps{6, 10})
	if got := e.Show(); got != "(3:0) (1:0 (4:0 (5:0)) (2:0))" {
		t.Errorf("Show() = %s", got)
	}
	for _, h := range []binomial.Heap{{}, a, b, c, d, e} {
		h.Size()
		if h.Show() == "" {
			t.Error("Show() is empty")
		}
	}
	counted(t, "and asks", m, steps{6, 10})
	for _, h := range []binomial.Heap{{}, a, b, c, d, e} {
		h.Min(m)
	}
	counted(t, "and Min", m, steps{10, 10})
	if got := m.Steps(); got != 20 {
		t.Errorf("Steps() = %d", got)
	}
}

// P7.1, P7.2, P7.3: many elements, in an order of their own, come out in order, by as many steps as the model's.
func TestMany(t *testing.T) {
	const n = 1 << 12
	var l []api.Elem
	for i := range int64(n) {
		l = append(l, api.Elem{P: i * 2741 % 4099 % 511, Id: i % 5})
	}
	p := of(t, l...)
	holds(t, "many", p.heap, p.want)
	half := of(t, l[:n/2]...).meld(t, of(t, l[n/2:]...))
	holds(t, "many, melded", half.heap, half.want)
	slices.SortFunc(l, order)
	var s steps
	m := meter.New()
	h, want := half.heap, half.want
	for i, x := range l {
		if got, is := h.Min(m); got != x || !is || h.Size() != n-i {
			t.Fatalf("%d popped: Min() = %v, %v, want %v; Size() = %d", i, got, is, x, h.Size())
		}
		h, _ = h.Pop(m)
		s.least(want)
		want = s.pop(want)
	}
	counted(t, "Min and Pop of many", m, s)
	holds(t, "many, melded, and popped", half.heap, half.want)
}

// P7.1, P7.2: of 2^31 elements too, which are one heap melded with itself again and again, all is told.
func TestTwiceAndTwice(t *testing.T) {
	for _, l := range [][]api.Elem{els(2, 1, 3), els(2, 1)} {
		h, want := binomial.Of(nil, l...), new(steps).of(l)
		var s steps
		m := meter.New()
		size := len(l)
		for size <= 1<<30 {
			h, want = h.Meld(m, h), s.meld(want, want)
			size *= 2
			s.least(want)
			if x, is := h.Min(m); x != el(1) || !is || h.Size() != size {
				t.Fatalf("Min() = %v, %v, Size() = %d, want %d", x, is, h.Size(), size)
			}
		}
		counted(t, "Meld with itself", m, s)
		for i := range 5000 {
			h, _ = h.Pop(m)
			want = s.pop(want)
			root := want[s.least(want)].root
			if x, is := h.Min(m); x != root || !is || h.Size() != size-1-i {
				t.Fatalf("Min() = %v, %v, Size() = %d", x, is, h.Size())
			}
		}
		h = h.Insert(m, el(0)).Insert(m, el(9))
		want = s.insert(s.insert(want, el(0)), el(9))
		counted(t, "and Pop and Insert", m, s)
		if x, is := h.Min(nil); x != el(0) || !is || h.Size() != size-4998 {
			t.Errorf("Min() = %v, %v, Size() = %d", x, is, h.Size())
		}
	}
}
