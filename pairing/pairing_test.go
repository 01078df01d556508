package pairing_test

import (
	"math"
	"slices"
	"strconv"
	"strings"
	"testing"

	"slagheap/api"
	"slagheap/meter"
	"slagheap/pairing"
)

// model is a heap as the document tells it, written without the package's own calls, and without sizes that are kept; nil is none.
type model struct {
	root api.Elem
	kids []*model
}

// steps is how many comparisons a model takes, and how many things made.
type steps struct{ compared, made int }

// less is the order of elements, by what the document says of it.
func less(a, b api.Elem) bool { return a.P < b.P || a.P == b.P && a.Id < b.Id }

// order is how two elements stand, for the library's sorting.
func order(a, b api.Elem) int {
	if less(a, b) {
		return -1
	}
	if less(b, a) {
		return 1
	}
	return 0
}

func (k *model) all() []api.Elem {
	if k == nil {
		return nil
	}
	l := []api.Elem{k.root}
	for _, kid := range k.kids {
		l = append(l, kid.all()...)
	}
	return l
}

// inOrder is all elements of a model, the least one first.
func (k *model) inOrder() []api.Elem {
	l := k.all()
	slices.SortFunc(l, order)
	return l
}

func (k *model) show() string {
	if k == nil {
		return "."
	}
	s := "(" + strconv.FormatInt(k.root.P, 10) + ":" + strconv.FormatInt(k.root.Id, 10)
	for _, kid := range k.kids {
		s += " " + kid.show()
	}
	return s + ")"
}

// lone is a node of an element alone.
func (s *steps) lone(x api.Elem) *model {
	s.made++
	return &model{root: x}
}

func (s *steps) meld(h, o *model) *model {
	if h == nil {
		return o
	}
	if o == nil {
		return h
	}
	s.compared++
	winner, loser := h, o
	if less(o.root, h.root) {
		winner, loser = o, h
	}
	s.made++
	return &model{winner.root, slices.Concat([]*model{loser}, winner.kids)}
}

func (s *steps) paired(kids []*model) *model {
	switch len(kids) {
	case 0:
		return nil
	case 1:
		return kids[0]
	}
	two := s.meld(kids[0], kids[1])
	others := s.paired(kids[2:])
	return s.meld(two, others)
}

func (s *steps) pop(k *model) *model {
	if k == nil {
		return nil
	}
	return s.paired(k.kids)
}

func (s *steps) of(l []api.Elem) *model {
	var k *model
	for _, x := range l {
		k = s.meld(s.lone(x), k)
	}
	return k
}

// pair is a heap, and what it has to be for ever.
type pair struct {
	heap pairing.Heap
	want *model
}

// counted fails, unless so many comparisons and things made were counted since the meter was new.
func counted(t *testing.T, what string, m *meter.Meter, want steps) {
	t.Helper()
	if c, n := m.Split(); c != want.compared || n != want.made {
		t.Fatalf("%s: %d comparisons, %d made, want %d, %d", what, c, n, want.compared, want.made)
	}
}

// of is Of by a meter of its own, and without one.
func of(t *testing.T, l ...api.Elem) pair {
	t.Helper()
	var s steps
	m := meter.New()
	p := pair{pairing.Of(m, l...), s.of(l)}
	counted(t, "Of", m, s)
	holds(t, "Of without a meter", pairing.Of(nil, l...), p.want)
	return p
}

// insert is Insert by a meter of its own, and without one.
func (p pair) insert(t *testing.T, x api.Elem) pair {
	t.Helper()
	var s steps
	m := meter.New()
	q := pair{p.heap.Insert(m, x), s.meld(s.lone(x), p.want)}
	counted(t, "Insert", m, s)
	holds(t, "Insert without a meter", p.heap.Insert(nil, x), q.want)
	return q
}

// meld is Meld by a meter of its own, and without one.
func (p pair) meld(t *testing.T, o pair) pair {
	t.Helper()
	var s steps
	m := meter.New()
	q := pair{p.heap.Meld(m, o.heap), s.meld(p.want, o.want)}
	counted(t, "Meld", m, s)
	holds(t, "Meld without a meter", p.heap.Meld(nil, o.heap), q.want)
	return q
}

// pop is Pop by a meter of its own, and without one.
func (p pair) pop(t *testing.T) pair {
	t.Helper()
	var s steps
	want := s.pop(p.want)
	m := meter.New()
	h, is := p.heap.Pop(m)
	counted(t, "Pop", m, s)
	again, isAgain := p.heap.Pop(nil)
	if is != (p.want != nil) || isAgain != is {
		t.Fatalf("Pop() of %s: %v, without a meter %v", p.want.show(), is, isAgain)
	}
	holds(t, "Pop without a meter", again, want)
	return pair{h, want}
}

// holds fails, unless all that a heap tells is that it is just this one, and asking for it takes no step.
func holds(t *testing.T, what string, h pairing.Heap, want *model) {
	t.Helper()
	var root api.Elem
	if want != nil {
		root = want.root
	}
	m := meter.New()
	least, is := h.Min(m)
	if again, isAgain := h.Min(nil); least != root || again != root || is != (want != nil) || isAgain != is {
		t.Fatalf("%s: Min() = %v, %v, without a meter %v, %v, want %v, %v", what, least, is, again, isAgain, root, want != nil)
	}
	counted(t, what+", Min", m, steps{})
	if got := h.Size(); got != len(want.all()) {
		t.Fatalf("%s: Size() = %d, want %d", what, got, len(want.all()))
	}
	if got := h.Show(); got != want.show() {
		t.Fatalf("%s: Show() = %s, want %s", what, got, want.show())
	}
}

// emptied fails, unless Pop after Pop tells all elements of a heap, in order, and then that there is none.
func emptied(t *testing.T, what string, p pair) {
	t.Helper()
	h := p
	for i, want := range p.want.inOrder() {
		if got, is := h.heap.Min(nil); got != want || !is {
			t.Fatalf("%s: %d popped of %s: Min() = %v, %v, want %v", what, i, p.want.show(), got, is, want)
		}
		h = h.pop(t)
	}
	if h.heap.Size() != 0 || h.heap.Show() != "." {
		t.Fatalf("%s: all popped: Size() = %d, Show() = %s", what, h.heap.Size(), h.heap.Show())
	}
	if _, is := h.heap.Pop(nil); is {
		t.Fatalf("%s: all popped, and one more", what)
	}
	holds(t, what+", from which all was popped", p.heap, p.want)
}

// shows fails, unless a heap is as the document tells it, and its text is this one, written out.
func shows(t *testing.T, p pair, want string) {
	t.Helper()
	if got := p.heap.Show(); got != want {
		t.Errorf("Show() = %s, want %s", got, want)
	}
	holds(t, want, p.heap, p.want)
}

// el is the element p:0.
func el(p int64) api.Elem { return api.Elem{P: p} }

// els are the elements p:0.
func els(ps ...int64) []api.Elem {
	var l []api.Elem
	for _, p := range ps {
		l = append(l, el(p))
	}
	return l
}

// over is a root, and kids, in order, none of which stands ahead of it.
func over(t *testing.T, root int64, kids ...pair) pair {
	t.Helper()
	p := of(t, el(root))
	for _, kid := range slices.Backward(kids) {
		p = p.meld(t, kid)
	}
	return p
}

// P8.1, P8.2: Of 2:0, 1:0, 3:0: 7 steps.
func TestExample(t *testing.T) {
	m := meter.New()
	h := pairing.Of(m, el(2), el(1), el(3))
	if got := h.Show(); got != "(1:0 (3:0) (2:0))" {
		t.Errorf("Show() = %s", got)
	}
	if got := m.Steps(); got != 7 {
		t.Errorf("Steps() = %d", got)
	}
	counted(t, "Of", m, steps{2, 5})
	p := of(t, els(2, 1, 3)...)
	shows(t, p, "(1:0 (3:0) (2:0))")
	emptied(t, "the example", p)
}

// P8.1, P8.2: of no elements is the empty heap, whoever makes it; it tells nothing, and takes no step.
func TestEmpty(t *testing.T) {
	var zero pairing.Heap
	empty := []pair{{}, {zero, nil}, of(t), of(t, []api.Elem{}...), of(t, el(4)).pop(t), pair{}.pop(t), pair{}.meld(t, pair{})}
	for _, p := range empty {
		shows(t, p, ".")
		m := meter.New()
		if x, is := p.heap.Min(m); x != (api.Elem{}) || is {
			t.Errorf("Min() of none = %v, %v", x, is)
		}
		if h, is := p.heap.Pop(m); is || h.Size() != 0 || h.Show() != "." {
			t.Errorf("Pop() of none = %s, %v", h.Show(), is)
		}
		if p.heap.Size() != 0 {
			t.Errorf("Size() of none = %d", p.heap.Size())
		}
		pairing.Of(m)
		for _, q := range empty {
			if h := p.heap.Meld(m, q.heap); h.Size() != 0 || h.Show() != "." {
				t.Errorf("Meld of none and none = %s", h.Show())
			}
		}
		counted(t, "Of, Meld, Min, Pop and Size of none", m, steps{})
		shows(t, p.insert(t, el(7)), "(7:0)")
		shows(t, p.pop(t), ".")
		emptied(t, "none", p)
	}
}

// P8.1: Meld where one has no elements is the other one: no steps.
func TestMeldOfEmpty(t *testing.T) {
	for _, l := range [][]api.Elem{els(5), els(2, 1, 3), els(3, 3, 3, 3)} {
		p := of(t, l...)
		for _, none := range []pair{{}, of(t), of(t, el(0)).pop(t)} {
			m := meter.New()
			ahead, behind := p.heap.Meld(m, none.heap), none.heap.Meld(m, p.heap)
			counted(t, "Meld where one is empty", m, steps{})
			holds(t, "Meld, the second one empty", ahead, p.want)
			holds(t, "Meld, the first one empty", behind, p.want)
			holds(t, "Meld of a heap and empty, without a meter", p.heap.Meld(nil, none.heap), p.want)
			holds(t, "Meld of empty and a heap, without a meter", none.heap.Meld(nil, p.heap), p.want)
			shows(t, none, ".")
			emptied(t, "Meld, the second one empty", pair{ahead, p.want})
			emptied(t, "Meld, the first one empty", pair{behind, p.want})
		}
	}
}

// P8.1: the winner is the one whose root stands ahead, whichever is handed in; the loser is its first kid, and its kids stand behind that.
func TestMeldWinner(t *testing.T) {
	a, b := of(t, els(1, 5, 8)...), of(t, els(2, 6, 9)...)
	shows(t, a, "(1:0 (8:0) (5:0))")
	shows(t, b, "(2:0 (9:0) (6:0))")
	for _, two := range [][2]pair{{a, b}, {b, a}} {
		m := meter.New()
		two[0].heap.Meld(m, two[1].heap)
		counted(t, "Meld of two", m, steps{1, 1})
		p := two[0].meld(t, two[1])
		shows(t, p, "(1:0 (2:0 (9:0) (6:0)) (8:0) (5:0))")
		emptied(t, "Meld of two", p)
	}
	// The Id tells, where the P doesn't.
	c, d := of(t, api.Elem{P: 1, Id: -1}, el(5)), of(t, api.Elem{P: 1, Id: -2}, el(6))
	shows(t, c.meld(t, d), "(1:-2 (1:-1 (5:0)) (6:0))")
	shows(t, d.meld(t, c), "(1:-2 (1:-1 (5:0)) (6:0))")
	// The P tells, whatever the Id.
	e, f := of(t, api.Elem{P: 1, Id: 9}, el(5)), of(t, api.Elem{P: 2, Id: -9}, el(6))
	shows(t, e.meld(t, f), "(1:9 (2:-9 (6:0)) (5:0))")
	shows(t, f.meld(t, e), "(1:9 (2:-9 (6:0)) (5:0))")
	shows(t, a, "(1:0 (8:0) (5:0))")
	shows(t, b, "(2:0 (9:0) (6:0))")
}

// P8.1: of two roots of which neither stands ahead, the one of the heap that is asked wins, whichever way round they are melded.
func TestMeldOfEqualRoots(t *testing.T) {
	a, b := of(t, els(1, 5)...), of(t, els(1, 6)...)
	shows(t, a.meld(t, b), "(1:0 (1:0 (6:0)) (5:0))")
	shows(t, b.meld(t, a), "(1:0 (1:0 (5:0)) (6:0))")
	emptied(t, "equal roots", a.meld(t, b))
	emptied(t, "equal roots, the other way round", b.meld(t, a))
	// How many elements, or kids, there are tells nothing.
	c := of(t, els(1, 7, 8, 9)...)
	shows(t, a.meld(t, c), "(1:0 (1:0 (9:0) (8:0) (7:0)) (5:0))")
	shows(t, c.meld(t, a), "(1:0 (1:0 (5:0)) (9:0) (8:0) (7:0))")
}

// P8.1: a node of the element alone, melded with the heap; of equal roots the node wins.
func TestInsert(t *testing.T) {
	rows := []struct {
		what, want string
		l          []int64
		x          api.Elem
		s          steps
	}{
		{"into the empty heap", "(3:0)", nil, el(3), steps{0, 1}},
		{"ahead of one", "(1:0 (3:0))", []int64{3}, el(1), steps{1, 2}},
		{"behind one", "(3:0 (4:0))", []int64{3}, el(4), steps{1, 2}},
		{"ahead of all", "(0:0 (1:0 (3:0) (2:0)))", []int64{2, 1, 3}, el(0), steps{1, 2}},
		{"behind all", "(1:0 (9:0) (3:0) (2:0))", []int64{2, 1, 3}, el(9), steps{1, 2}},
		{"between", "(1:0 (2:5) (3:0) (2:0))", []int64{2, 1, 3}, api.Elem{P: 2, Id: 5}, steps{1, 2}},
		{"as the root", "(1:0 (1:0 (3:0) (2:0)))", []int64{2, 1, 3}, el(1), steps{1, 2}},
		{"as a kid", "(1:0 (3:0) (3:0) (2:0))", []int64{2, 1, 3}, el(3), steps{1, 2}},
		{"just ahead of the root", "(1:-1 (1:0 (3:0) (2:0)))", []int64{2, 1, 3}, api.Elem{P: 1, Id: -1}, steps{1, 2}},
		{"just behind the root", "(1:0 (1:1) (3:0) (2:0))", []int64{2, 1, 3}, api.Elem{P: 1, Id: 1}, steps{1, 2}},
	}
	for _, r := range rows {
		p := of(t, els(r.l...)...)
		m := meter.New()
		p.heap.Insert(m, r.x)
		counted(t, "Insert "+r.what, m, r.s)
		q := p.insert(t, r.x)
		if got := q.heap.Show(); got != r.want {
			t.Errorf("Insert %s: Show() = %s, want %s", r.what, got, r.want)
		}
		shows(t, q, r.want)
		if q.heap.Size() != p.heap.Size()+1 {
			t.Errorf("Insert %s: Size() = %d of %d", r.what, q.heap.Size(), p.heap.Size())
		}
		emptied(t, "Insert "+r.what, q)
		holds(t, "Insert "+r.what, p.heap, p.want)
	}
}

// P8.1: Of is one Insert after the other, in order, into the empty heap.
func TestOf(t *testing.T) {
	rows := []struct {
		want string
		l    []int64
		s    steps
	}{
		{".", nil, steps{}},
		{"(5:0)", []int64{5}, steps{0, 1}},
		{"(1:0 (3:0) (2:0))", []int64{1, 2, 3}, steps{2, 5}},
		{"(1:0 (2:0 (3:0)))", []int64{3, 2, 1}, steps{2, 5}},
		{"(1:0 (2:0) (3:0))", []int64{1, 3, 2}, steps{2, 5}},
		{"(1:0 (2:0 (3:0)))", []int64{2, 3, 1}, steps{2, 5}},
		{"(1:0 (2:0) (3:0))", []int64{3, 1, 2}, steps{2, 5}},
		{"(1:0 (1:0 (1:0 (1:0))))", []int64{1, 1, 1, 1}, steps{3, 7}},
		{"(1:0 (5:0) (4:0) (3:0) (2:0))", []int64{1, 2, 3, 4, 5}, steps{4, 9}},
		{"(1:0 (4:0) (3:0 (9:0) (5:0)))", []int64{5, 3, 9, 1, 4}, steps{4, 9}},
	}
	for _, r := range rows {
		m := meter.New()
		pairing.Of(m, els(r.l...)...)
		counted(t, "Of", m, r.s)
		p := of(t, els(r.l...)...)
		shows(t, p, r.want)
		emptied(t, "Of", p)
		var one pair
		for _, x := range r.l {
			one = one.insert(t, el(x))
		}
		shows(t, one, r.want)
	}
}

// P8.1: what is handed to Of isn't changed, and isn't kept.
func TestOfKeepsNothing(t *testing.T) {
	l := els(4, 2, 2, 9, -1)
	given := slices.Clone(l)
	h := pairing.Of(nil, l...)
	if !slices.Equal(l, given) {
		t.Errorf("Of changed its list: %v", l)
	}
	clear(l)
	p := pair{h, new(steps).of(given)}
	holds(t, "behind a change of the list", h, p.want)
	emptied(t, "behind a change of the list", p)
}

// P8.2: the kids, paired; what comes of few is written out.
func TestPop(t *testing.T) {
	rows := []struct {
		what, was, want string
		l               []int64
		s               steps
	}{
		{"no kid", "(4:0)", ".", []int64{4}, steps{}},
		{"one kid", "(3:0 (4:0))", "(4:0)", []int64{4, 3}, steps{}},
		{"one kid with kids", "(0:0 (1:0 (3:0) (2:0)))", "(1:0 (3:0) (2:0))", []int64{2, 1, 3, 0}, steps{}},
		{"two kids, the second one ahead", "(1:0 (3:0) (2:0))", "(2:0 (3:0))", []int64{2, 1, 3}, steps{1, 1}},
		{"two kids, the first one ahead", "(1:0 (2:0) (3:0))", "(2:0 (3:0))", []int64{3, 1, 2}, steps{1, 1}},
		{"three kids, the last one ahead", "(1:0 (4:0) (3:0) (2:0))", "(2:0 (3:0 (4:0)))", []int64{1, 2, 3, 4}, steps{2, 2}},
		{"three kids, the first one ahead", "(1:0 (2:0) (3:0) (4:0))", "(2:0 (4:0) (3:0))", []int64{1, 4, 3, 2}, steps{2, 2}},
		{"four kids, the last one ahead", "(1:0 (5:0) (4:0) (3:0) (2:0))", "(2:0 (4:0 (5:0)) (3:0))", []int64{1, 2, 3, 4, 5}, steps{3, 3}},
		{"four kids, the first one ahead", "(1:0 (2:0) (3:0) (4:0) (5:0))", "(2:0 (4:0 (5:0)) (3:0))", []int64{1, 5, 4, 3, 2}, steps{3, 3}},
		{"five kids", "(1:0 (6:0) (5:0) (4:0) (3:0) (2:0))", "(2:0 (5:0 (6:0)) (3:0 (4:0)))", []int64{1, 2, 3, 4, 5, 6}, steps{4, 4}},
		{"six kids", "(1:0 (7:0) (6:0) (5:0) (4:0) (3:0) (2:0))", "(2:0 (6:0 (7:0)) (4:0 (5:0)) (3:0))", []int64{1, 2, 3, 4, 5, 6, 7}, steps{5, 5}},
	}
	for _, r := range rows {
		p := of(t, els(r.l...)...)
		shows(t, p, r.was)
		m := meter.New()
		if _, is := p.heap.Pop(m); !is {
			t.Errorf("%s: Pop() of %s: false", r.what, p.heap.Show())
		}
		counted(t, "Pop, "+r.what, m, r.s)
		q := p.pop(t)
		if got := q.heap.Show(); got != r.want {
			t.Errorf("%s: Show() = %s, want %s", r.what, got, r.want)
		}
		shows(t, q, r.want)
		if q.heap.Size() != len(r.l)-1 {
			t.Errorf("%s: Size() = %d", r.what, q.heap.Size())
		}
		emptied(t, "Pop, "+r.what, p)
	}
}

// P8.2: of kids with equal roots it is to be seen which are melded with which, and which of two is the heap that is asked.
func TestPopOfEqualKids(t *testing.T) {
	var kids []pair
	for i := range int64(6) {
		kids = append(kids, of(t, els(1, 11+i)...))
	}
	wants := []string{
		".",
		"(1:0 (11:0))",
		"(1:0 (1:0 (12:0)) (11:0))",
		"(1:0 (1:0 (13:0)) (1:0 (12:0)) (11:0))",
		"(1:0 (1:0 (1:0 (14:0)) (13:0)) (1:0 (12:0)) (11:0))",
		"(1:0 (1:0 (1:0 (15:0)) (1:0 (14:0)) (13:0)) (1:0 (12:0)) (11:0))",
		"(1:0 (1:0 (1:0 (1:0 (16:0)) (15:0)) (1:0 (14:0)) (13:0)) (1:0 (12:0)) (11:0))",
	}
	for n, want := range wants {
		p := over(t, 0, kids[:n]...)
		m := meter.New()
		p.heap.Pop(m)
		counted(t, "Pop", m, steps{max(n-1, 0), max(n-1, 0)})
		shows(t, p.pop(t), want)
		emptied(t, "kids with equal roots", p)
	}
	for i, kid := range kids {
		shows(t, kid, "(1:0 ("+strconv.Itoa(11+i)+":0))")
	}
}

// P8.2: of many kids, an even and an odd number of them, each is melded once.
func TestPopOfMany(t *testing.T) {
	for n := range 90 {
		for _, step := range []int64{1, -1, 7, 0} {
			var kids []pair
			for i := range int64(n) {
				kids = append(kids, of(t, api.Elem{P: 500 + i*step%31, Id: i % 3}))
			}
			p := over(t, 0, kids...)
			m := meter.New()
			p.heap.Pop(m)
			counted(t, "Pop", m, steps{max(n-1, 0), max(n-1, 0)})
			q := p.pop(t)
			holds(t, "Pop of many kids", q.heap, q.want)
			if n%20 < 2 {
				emptied(t, "many kids", p)
			}
		}
	}
}

// P8.2: Min is the root, and takes nothing out.
func TestMin(t *testing.T) {
	p := of(t, els(8, 3, 5, 3, 9)...)
	m := meter.New()
	for range 5 {
		if x, is := p.heap.Min(m); x != el(3) || !is {
			t.Errorf("Min() = %v, %v", x, is)
		}
	}
	counted(t, "Min", m, steps{})
	holds(t, "asked for its least element", p.heap, p.want)
	// A zero element that is there is told as one.
	if x, is := pairing.Of(nil, api.Elem{}, el(1)).Min(m); x != (api.Elem{}) || !is {
		t.Errorf("Min() = %v, %v", x, is)
	}
	// Wherever it was put in, it is told.
	for i := range 7 {
		l := els(4, 4, 4, 4, 4, 4, 4)
		l[i] = el(3)
		if x, is := pairing.Of(nil, l...).Min(nil); x != el(3) || !is {
			t.Errorf("Min() = %v, %v", x, is)
		}
	}
}

// P8.2: Show is brackets around each node, and a blank ahead of each kid, and none elsewhere.
func TestShow(t *testing.T) {
	below := over(t, 4, of(t, el(6)), over(t, 5, of(t, el(7))))
	p := over(t, -1, of(t, el(3)), below, of(t, api.Elem{P: 2, Id: -8}))
	shows(t, p, "(-1:0 (3:0) (4:0 (6:0) (5:0 (7:0))) (2:-8))")
	if got := p.heap.Size(); got != 7 {
		t.Errorf("Size() = %d", got)
	}
	shows(t, over(t, 1, over(t, 2, over(t, 3, over(t, 4)))), "(1:0 (2:0 (3:0 (4:0))))")
	shows(t, over(t, 1, over(t, 2, of(t, el(3))), over(t, 2, of(t, el(3)))), "(1:0 (2:0 (3:0)) (2:0 (3:0)))")
	emptied(t, "Show", p)
}

// edges are elements at both ends of what 64 bits hold.
func edges() []api.Elem {
	var l []api.Elem
	for _, p := range []int64{math.MinInt64, math.MinInt64 + 1, -1, 0, 1, math.MaxInt64 - 1, math.MaxInt64} {
		for _, id := range []int64{math.MinInt64, -1, 0, math.MaxInt64} {
			l = append(l, api.Elem{P: p, Id: id})
		}
	}
	return l
}

// P8.1, P8.2, P8.3: elements at both ends of 64 bits are elements as others are.
func TestEdges(t *testing.T) {
	low, high := api.Elem{P: math.MinInt64, Id: math.MaxInt64}, api.Elem{P: math.MaxInt64, Id: math.MinInt64}
	want := "(-9223372036854775808:9223372036854775807 (9223372036854775807:-9223372036854775808))"
	shows(t, of(t, low, high), want)
	shows(t, of(t, high, low), want)
	shows(t, of(t, high).meld(t, of(t, low)), want)
	shows(t, of(t, low).meld(t, of(t, high)), want)
	l := edges()
	for first := range l {
		var mixed []api.Elem
		for i := range l {
			mixed = append(mixed, l[(first+i*11)%len(l)])
		}
		p := of(t, mixed...)
		holds(t, "Of the edges", p.heap, p.want)
		emptied(t, "the edges", p)
		half := of(t, mixed[:14]...).meld(t, of(t, mixed[14:]...))
		holds(t, "Meld of the edges", half.heap, half.want)
		emptied(t, "the edges, melded", half)
		if !slices.Equal(half.want.inOrder(), l) {
			t.Fatalf("elements went astray: %s", half.heap.Show())
		}
	}
}

// P8.3: equal elements are there as often as they were put in.
func TestEqualElements(t *testing.T) {
	for n := range 40 {
		same := of(t, slices.Repeat([]api.Elem{el(5)}, n)...)
		holds(t, "equal elements", same.heap, same.want)
		for _, p := range []pair{same, same.insert(t, el(5)), same.insert(t, el(4)), same.insert(t, el(6)), same.meld(t, same), same.meld(t, of(t, els(5, 4, 6, 5)...))} {
			holds(t, "and others", p.heap, p.want)
			emptied(t, "and others", p)
		}
	}
}

// P8.1, P8.3: a heap melded with itself has each element twice, and is there as it was.
func TestMeldWithItself(t *testing.T) {
	p := of(t, els(2, 1, 3)...)
	twice := p.meld(t, p)
	shows(t, p, "(1:0 (3:0) (2:0))")
	shows(t, twice, "(1:0 (1:0 (3:0) (2:0)) (3:0) (2:0))")
	if !slices.Equal(twice.want.inOrder(), els(1, 1, 2, 2, 3, 3)) {
		t.Errorf("twice: %s", twice.heap.Show())
	}
	emptied(t, "twice", twice)
	one := of(t, el(4))
	shows(t, one.meld(t, one), "(4:0 (4:0))")
	shows(t, one, "(4:0)")
	// Kids of a heap that it shares with one that came of it are melded as those of any other.
	most := p.pop(t)
	for _, q := range []pair{p.meld(t, most), most.meld(t, p), twice.meld(t, p), p.insert(t, el(0)).meld(t, p)} {
		holds(t, "melded with what came of it", q.heap, q.want)
		emptied(t, "melded with what came of it", q)
	}
	shows(t, p, "(1:0 (3:0) (2:0))")
}

// P8.3: many heaps made of one, and what is popped of them, leave it, and each other, as they are.
func TestManyOfOne(t *testing.T) {
	for n := range 12 {
		var l []api.Elem
		for i := range int64(n) {
			l = append(l, el(i*5%7))
		}
		p := of(t, l...)
		var made []pair
		for x := range int64(9) {
			made = append(made, p.insert(t, el(x)), p.pop(t), p.meld(t, of(t, el(x), el(3))), of(t, el(x), el(3)).meld(t, p), p.pop(t).insert(t, el(x)))
		}
		for _, q := range made {
			emptied(t, "made of one", q)
		}
		for _, q := range made {
			holds(t, "made of one, as others were", q.heap, q.want)
		}
		emptied(t, "of which others were made", p)
	}
}

// P8.1, P8.2, P8.3: every way to put in up to 6 elements, and to take them out again.
func TestAllSmall(t *testing.T) {
	for n := range 7 {
		for code := range 1 << (2 * n) {
			var l []api.Elem
			for i := range n {
				l = append(l, el(int64(code>>(2*i)&3)))
			}
			p := of(t, l...)
			holds(t, "Of a few", p.heap, p.want)
			if n == 6 && code%17 != 0 {
				continue
			}
			emptied(t, "a few", p)
			for i := range n {
				q := of(t, l[:i]...).meld(t, of(t, l[i:]...))
				holds(t, "Meld of a few", q.heap, q.want)
			}
		}
	}
}

// versions makes heaps of heaps, and fails unless each is what it has to be, when it is made and at the end.
func versions(t *testing.T, rounds int, x func(n int) api.Elem) []pair {
	t.Helper()
	all := []pair{{}, of(t, x(0)), of(t, x(1), x(2), x(3))}
	for n := range rounds {
		a, b := all[n*7919%len(all)], all[n*104729%len(all)]
		made := []pair{a.insert(t, x(n)), a.meld(t, b), b.meld(t, a), a.meld(t, a), a.pop(t), b.pop(t), b.insert(t, x(n+1)), of(t, x(n), x(n+2), x(n+5))}
		for _, p := range made {
			holds(t, "just made", p.heap, p.want)
			// Heaps that are melded with themselves would double without end.
			if p.heap.Size() <= 60 {
				all = append(all, p)
			}
		}
		holds(t, "what it came of", a.heap, a.want)
		holds(t, "the other one", b.heap, b.want)
	}
	return all
}

// P8.3: whatever is done with heaps from which others were made, each stays as it is, and all that is in it can be taken out.
func TestVersionsStay(t *testing.T) {
	elements := []func(n int) api.Elem{
		func(n int) api.Elem { return api.Elem{P: int64(n*31%11) - 5, Id: int64(n % 3)} },
		func(n int) api.Elem { return el(int64(n * 17 % 4)) },
		func(n int) api.Elem { return el(int64(-n)) },
		func(n int) api.Elem { return api.Elem{P: int64(n), Id: int64(-n)} },
		func(n int) api.Elem { return edges()[n*13%28] },
	}
	for _, x := range elements {
		all := versions(t, 120, x)
		for i, p := range all {
			if i%7 == 0 {
				emptied(t, "at the end", p)
			}
		}
		for _, p := range all {
			holds(t, "at the end", p.heap, p.want)
		}
	}
}

// P8.1, P8.2: one meter counts all calls together, and Min, Size and Show take no step.
func TestStepsTogether(t *testing.T) {
	m := meter.New()
	a := pairing.Of(m, els(2, 1, 3)...)
	counted(t, "Of", m, steps{2, 5})
	b := a.Insert(m, el(0))
	counted(t, "and Insert", m, steps{3, 7})
	c := b.Meld(m, pairing.Of(nil, el(5)))
	counted(t, "and Meld", m, steps{4, 8})
	d, _ := c.Pop(m)
	counted(t, "and Pop", m, steps{5, 9})
	e, _ := d.Pop(m)
	counted(t, "and Pop of three kids", m, steps{7, 11})
	if got := e.Show(); got != "(2:0 (3:0 (5:0)))" {
		t.Errorf("Show() = %s", got)
	}
	e.Pop(nil)
	e.Insert(nil, el(8)).Meld(nil, d)
	for _, h := range []pairing.Heap{{}, a, b, c, d, e} {
		h.Min(m)
		h.Size()
		if h.Show() == "" {
			t.Error("Show() is empty")
		}
	}
	counted(t, "and asks", m, steps{7, 11})
	if got := m.Steps(); got != 18 {
		t.Errorf("Steps() = %d", got)
	}
}

// P8.1, P8.2, P8.3: a heap whose kids lie one below the other very deep is a heap as others are.
func TestDeep(t *testing.T) {
	const n = 1 << 16
	m := meter.New()
	var deep pairing.Heap
	for i := range int64(n) {
		deep = deep.Insert(m, el(-i))
	}
	counted(t, "each ahead of all", m, steps{n - 1, 2*n - 1})
	if deep.Size() != n {
		t.Errorf("Size() = %d", deep.Size())
	}
	s := deep.Show()
	if strings.Count(s, ":") != n || !strings.HasPrefix(s, "(-65535:0 (-65534:0 (") || !strings.HasSuffix(s, " (-1:0 (0:0"+strings.Repeat(")", n)) {
		t.Errorf("a text of %d bytes", len(s))
	}
	h := deep
	for i := range int64(n) {
		if x, is := h.Min(nil); x != el(i-n+1) || !is {
			t.Fatalf("%d popped: Min() = %v, %v", i, x, is)
		}
		h, _ = h.Pop(m)
	}
	counted(t, "and Pop of all", m, steps{n - 1, 2*n - 1})
	if h.Show() != "." || deep.Size() != n {
		t.Errorf("all popped: %s, of %d", h.Show(), deep.Size())
	}
}

// P8.1, P8.2, P8.3: a heap of very many kids is a heap as others are, be they an even or an odd number.
func TestWide(t *testing.T) {
	for _, n := range []int{1 << 16, 1<<16 + 1} {
		m := meter.New()
		var wide pairing.Heap
		var text strings.Builder
		for i := range int64(n) {
			wide = wide.Insert(m, el(i))
		}
		counted(t, "each behind all", m, steps{n - 1, 2*n - 1})
		text.WriteString("(0:0")
		for i := n - 1; i > 0; i-- {
			text.WriteString(" (" + strconv.Itoa(i) + ":0)")
		}
		if wide.Size() != n || wide.Show() != text.String()+")" {
			t.Errorf("Size() = %d, a text of %d bytes", wide.Size(), len(wide.Show()))
		}
		m = meter.New()
		h, _ := wide.Pop(m)
		counted(t, "and Pop", m, steps{n - 2, n - 2})
		for i := range int64(n - 1) {
			if x, is := h.Min(nil); x != el(i+1) || !is {
				t.Fatalf("%d popped: Min() = %v, %v", i, x, is)
			}
			h, _ = h.Pop(nil)
		}
		if h.Show() != "." || wide.Size() != n {
			t.Errorf("all popped: %s, of %d", h.Show(), wide.Size())
		}
	}
}

// P8.1, P8.2, P8.3: many elements, in an order of their own, come out in order, by as many steps as the model's.
func TestMany(t *testing.T) {
	const n = 1 << 12
	var l []api.Elem
	for i := range int64(n) {
		l = append(l, api.Elem{P: i * 2741 % 4099 % 511, Id: i % 5})
	}
	p := of(t, l...)
	holds(t, "many", p.heap, p.want)
	half := of(t, l[:n/2]...).meld(t, of(t, l[n/2:]...))
	holds(t, "many, melded", half.heap, half.want)
	slices.SortFunc(l, order)
	var s steps
	m := meter.New()
	h, want := half.heap, half.want
	for i, x := range l {
		if got, is := h.Min(m); got != x || !is || h.Size() != n-i {
			t.Fatalf("%d popped: Min() = %v, %v, want %v; Size() = %d", i, got, is, x, h.Size())
		}
		h, _ = h.Pop(m)
		want = s.pop(want)
	}
	counted(t, "Pop of many", m, s)
	holds(t, "many, melded, and popped", half.heap, half.want)
}

// P8.1, P8.2: of 2^31 elements too, which are one heap melded with itself again and again, all is told.
func TestTwiceAndTwice(t *testing.T) {
	for _, l := range [][]api.Elem{els(2, 1, 3), els(2, 1)} {
		h, want := pairing.Of(nil, l...), new(steps).of(l)
		var s steps
		m := meter.New()
		size := len(l)
		for size <= 1<<30 {
			h, want = h.Meld(m, h), s.meld(want, want)
			size *= 2
			if x, is := h.Min(m); x != el(1) || !is || h.Size() != size {
				t.Fatalf("Min() = %v, %v, Size() = %d, want %d", x, is, h.Size(), size)
			}
		}
		counted(t, "Meld with itself", m, s)
		for i := range 5000 {
			h, _ = h.Pop(m)
			want = s.pop(want)
			if x, is := h.Min(m); x != want.root || !is || h.Size() != size-1-i {
				t.Fatalf("Min() = %v, %v, Size() = %d", x, is, h.Size())
			}
		}
		h = h.Insert(m, el(0)).Insert(m, el(9))
		want = s.meld(s.lone(el(9)), s.meld(s.lone(el(0)), want))
		counted(t, "and Pop and Insert", m, s)
		if x, is := h.Min(nil); x != el(0) || x != want.root || !is || h.Size() != size-4998 {
			t.Errorf("Min() = %v, %v, Size() = %d", x, is, h.Size())
		}
	}
}
