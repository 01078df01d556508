package boot_test

import (
	"math"
	"math/bits"
	"slices"
	"strconv"
	"strings"
	"testing"

	"slagheap/api"
	"slagheap/boot"
	"slagheap/meter"
	"slagheap/skew"
)

// model is a heap as the document tells it, written without the package's own calls: its root, and its queue; nil is none.
type model struct {
	root  api.Elem
	queue trees
}

// trees is a queue as layer 9 tells it, in order.
type trees []*branch

// branch is a tree: the heap at its root, those that stand beside that, its rank, and its kids, the greatest one first.
type branch struct {
	root   *model
	beside []*model
	rank   int
	kids   []*branch
}

// steps is how many comparisons a model takes, and how many things made.
type steps struct{ compared, made int }

// before is the order of elements, by what the document says of it.
func before(a, b api.Elem) bool { return a.P < b.P || a.P == b.P && a.Id < b.Id }

// order is how two elements stand, for the library's sorting.
func order(a, b api.Elem) int {
	if before(a, b) {
		return -1
	}
	if before(b, a) {
		return 1
	}
	return 0
}

// less is how the roots of two heaps stand, which takes a comparison.
func (s *steps) less(a, b *model) bool {
	s.compared++
	return before(a.root, b.root)
}

// text is an element's text.
func text(e api.Elem) string {
	return strconv.FormatInt(e.P, 10) + ":" + strconv.FormatInt(e.Id, 10)
}

// all is the heaps of a queue, in order.
func (k trees) all() []*model {
	var l []*model
	for _, b := range k {
		l = append(append(l, b.root), b.beside...)
		l = append(l, trees(b.kids).all()...)
	}
	return l
}

// leaf is a tree of a heap alone.
func (s *steps) leaf(x *model) *branch {
	s.made++
	return &branch{root: x}
}

// link is one tree of two: the second one is the winner just if its root stands ahead.
func (s *steps) link(a, b *branch) *branch {
	if s.less(b.root, a.root) {
		a, b = b, a
	}
	s.made++
	return &branch{a.root, a.beside, a.rank + 1, slices.Concat([]*branch{b}, a.kids)}
}

// skewed is one tree of two, and a heap.
func (s *steps) skewed(x *model, a, b *branch) *branch {
	u := s.link(a, b)
	root := u.root
	if !s.less(root, x) {
		root, x = x, root
	}
	s.made++
	return &branch{root, slices.Concat([]*model{x}, u.beside), u.rank, u.kids}
}

// ahead is a tree put ahead of trees.
func (s *steps) ahead(b *branch, k trees) trees {
	if len(k) > 0 && k[0].rank == b.rank {
		return s.ahead(s.link(b, k[0]), k[1:])
	}
	return slices.Concat(trees{b}, k)
}

func (k trees) insert(s *steps, x *model) trees {
	if len(k) > 1 && k[0].rank == k[1].rank {
		return slices.Concat(trees{s.skewed(x, k[0], k[1])}, k[2:])
	}
	return slices.Concat(trees{s.leaf(x)}, k)
}

func (k trees) levelled(s *steps) trees {
	if len(k) == 0 {
		return nil
	}
	return s.ahead(k[0], k[1:])
}

// melded is trees melded, of rows whose ranks all rise.
func (s *steps) melded(h, o trees) trees {
	if len(h) == 0 {
		return o
	}
	if len(o) == 0 {
		return h
	}
	f, g := h[0], o[0]
	if f.rank < g.rank {
		return slices.Concat(trees{f}, s.melded(h[1:], o))
	}
	if g.rank < f.rank {
		return slices.Concat(trees{g}, s.melded(h, o[1:]))
	}
	rest := s.melded(h[1:], o[1:])
	return s.ahead(s.link(f, g), rest)
}

func (k trees) meld(s *steps, o trees) trees {
	first := k.levelled(s)
	return s.melded(first, o.levelled(s))
}

// least is the place of the tree with the least root, the first one of several.
func (k trees) least(s *steps) int {
	place := 0
	for i := 1; i < len(k); i++ {
		if s.less(k[i].root, k[place].root) {
			place = i
		}
	}
	return place
}

func (k trees) pop(s *steps) trees {
	i := k.least(s)
	kids := slices.Clone(k[i].kids)
	slices.Reverse(kids)
	out := s.melded(kids, slices.Concat(k[:i], k[i+1:]).levelled(s))
	for _, x := range k[i].beside {
		out = out.insert(s, x)
	}
	return out
}

// build is a heap, which is made.
func (s *steps) build(root api.Elem, queue trees) *model {
	s.made++
	return &model{root, queue}
}

func (k *model) insert(s *steps, x api.Elem) *model {
	return s.build(x, nil).meld(s, k)
}

func (k *model) meld(s *steps, o *model) *model {
	if k == nil {
		return o
	}
	if o == nil {
		return k
	}
	winner, loser := k, o
	if s.less(o, k) {
		winner, loser = o, k
	}
	return s.build(winner.root, winner.queue.insert(s, loser))
}

func (k *model) pop(s *steps) *model {
	if k == nil || len(k.queue) == 0 {
		return nil
	}
	f := k.queue[k.queue.least(s)].root
	q := k.queue.pop(s)
	return s.build(f.root, f.queue.meld(s, q))
}

func (k *model) all() []api.Elem {
	if k == nil {
		return nil
	}
	l := []api.Elem{k.root}
	for _, x := range k.queue.all() {
		l = append(l, x.all()...)
	}
	return l
}

// inOrder is all elements of a model, the least one first.
func (k *model) inOrder() []api.Elem {
	l := k.all()
	slices.SortFunc(l, order)
	return l
}

func (k *model) show() string {
	if k == nil {
		return "."
	}
	s := "[" + text(k.root)
	for _, x := range k.queue.all() {
		s += " " + x.show()
	}
	return s + "]"
}

// modelOf is the elements put into the empty heap, in order.
func modelOf(s *steps, l ...api.Elem) *model {
	var k *model
	for _, x := range l {
		k = k.insert(s, x)
	}
	return k
}

// pair is a heap, and what it has to be for ever.
type pair struct {
	heap boot.Heap
	want *model
}

// counted fails, unless so many comparisons and things made were counted since the meter was new.
func counted(t *testing.T, what string, m *meter.Meter, want steps) {
	t.Helper()
	if c, n := m.Split(); c != want.compared || n != want.made {
		t.Fatalf("%s: %d comparisons, %d made, want %d, %d", what, c, n, want.compared, want.made)
	}
}

// of is Of by a meter of its own, and without one.
func of(t *testing.T, l ...api.Elem) pair {
	t.Helper()
	var s steps
	m := meter.New()
	p := pair{boot.Of(m, l...), modelOf(&s, l...)}
	counted(t, "Of", m, s)
	holds(t, "Of without a meter", boot.Of(nil, l...), p.want)
	return p
}

// insert is Insert by a meter of its own, and without one; it makes seven steps at most.
func (p pair) insert(t *testing.T, x api.Elem) pair {
	t.Helper()
	var s steps
	m := meter.New()
	q := pair{p.heap.Insert(m, x), p.want.insert(&s, x)}
	counted(t, "Insert", m, s)
	if m.Steps() < 1 || m.Steps() > 7 {
		t.Fatalf("Insert into %s: %d steps", p.want.show(), m.Steps())
	}
	holds(t, "Insert without a meter", p.heap.Insert(nil, x), q.want)
	return q
}

// meld is Meld by a meter of its own, and without one; it makes six steps at most.
func (p pair) meld(t *testing.T, o pair) pair {
	t.Helper()
	var s steps
	m := meter.New()
	q := pair{p.heap.Meld(m, o.heap), p.want.meld(&s, o.want)}
	counted(t, "Meld", m, s)
	if m.Steps() > 6 {
		t.Fatalf("Meld of %s and %s: %d steps", p.want.show(), o.want.show(), m.Steps())
	}
	holds(t, "Meld without a meter", p.heap.Meld(nil, o.heap), q.want)
	return q
}

// pop is Pop by a meter of its own, and without one; it makes fourteen steps at most for each bit of how many elements there are.
func (p pair) pop(t *testing.T) pair {
	t.Helper()
	var s steps
	want := p.want.pop(&s)
	m := meter.New()
	h, is := p.heap.Pop(m)
	counted(t, "Pop", m, s)
	if m.Steps() > 14*bits.Len(uint(p.heap.Size())) {
		t.Fatalf("Pop() of %s: %d steps", p.want.show(), m.Steps())
	}
	again, isAgain := p.heap.Pop(nil)
	if is != (p.want != nil) || isAgain != is {
		t.Fatalf("Pop() of %s: %v, without a meter %v", p.want.show(), is, isAgain)
	}
	holds(t, "Pop without a meter", again, want)
	return pair{h, want}
}

// holds fails, unless all that a heap tells is that it is just this one, and asking for it takes no step.
func holds(t *testing.T, what string, h boot.Heap, want *model) {
	t.Helper()
	var root api.Elem
	if want != nil {
		root = want.root
	}
	m := meter.New()
	least, is := h.Min(m)
	if again, isAgain := h.Min(nil); least != root || again != root || is != (want != nil) || isAgain != is {
		t.Fatalf("%s: Min() = %v, %v, without a meter %v, %v, want %v, %v", what, least, is, again, isAgain, root, want != nil)
	}
	if got := h.Size(); got != len(want.all()) {
		t.Fatalf("%s: Size() = %d, want %d", what, got, len(want.all()))
	}
	if got := h.Show(); got != want.show() {
		t.Fatalf("%s: Show() = %s, want %s", what, got, want.show())
	}
	counted(t, what+", Min, Size and Show", m, steps{})
}

// emptied fails, unless Pop after Pop tells all elements of a heap, in order, and then that there is none.
func emptied(t *testing.T, what string, p pair) {
	t.Helper()
	h := p
	for i, want := range p.want.inOrder() {
		if got, is := h.heap.Min(nil); got != want || !is {
			t.Fatalf("%s: %d popped of %s: Min() = %v, %v, want %v", what, i, p.want.show(), got, is, want)
		}
		h = h.pop(t)
	}
	if h.heap.Size() != 0 || h.heap.Show() != "." {
		t.Fatalf("%s: all popped: Size() = %d, Show() = %s", what, h.heap.Size(), h.heap.Show())
	}
	holds(t, what+", from which all was popped", p.heap, p.want)
}

// shows fails, unless a heap is as the document tells it, and its text is this one, written out.
func shows(t *testing.T, p pair, want string) {
	t.Helper()
	if got := p.heap.Show(); got != want {
		t.Errorf("Show() = %s, want %s", got, want)
	}
	holds(t, want, p.heap, p.want)
}

// el is the element p:0.
func el(p int64) api.Elem { return api.Elem{P: p} }

// els are the elements p:0.
func els(ps ...int64) []api.Elem {
	var l []api.Elem
	for _, p := range ps {
		l = append(l, el(p))
	}
	return l
}

// some are so many elements, in an order of their own.
func some(n int) []api.Elem {
	var l []api.Elem
	for i := range int64(n) {
		l = append(l, api.Elem{P: i * 37 % 23, Id: i % 3})
	}
	return l
}

// P11.1, P11.2: Of 2:0, 1:0, 3:0: 9 steps.
func TestExample(t *testing.T) {
	m := meter.New()
	h := boot.Of(m, el(2), el(1), el(3))
	if got := h.Show(); got != "[1:0 [3:0] [2:0]]" {
		t.Errorf("Show() = %s", got)
	}
	if got := m.Steps(); got != 9 {
		t.Errorf("Steps() = %d", got)
	}
	counted(t, "Of", m, steps{2, 7})
	if x, is := h.Min(m); x != el(1) || !is || h.Size() != 3 {
		t.Errorf("Min() = %v, %v, Size() = %d", x, is, h.Size())
	}
	counted(t, "and Min", m, steps{2, 7})
	p := of(t, els(2, 1, 3)...)
	shows(t, p, "[1:0 [3:0] [2:0]]")
	emptied(t, "the example", p)
}

// P11.1, P11.2: of no elements is the empty heap, whoever makes it; it tells nothing, and takes no step.
func TestEmpty(t *testing.T) {
	var zero boot.Heap
	empty := []pair{{}, {zero, nil}, of(t), of(t, []api.Elem{}...), of(t, el(4)).pop(t), pair{}.pop(t), pair{}.meld(t, pair{}), of(t, els(2, 1, 3)...).pop(t).pop(t).pop(t)}
	for _, p := range empty {
		shows(t, p, ".")
		m := meter.New()
		if x, is := p.heap.Min(m); x != (api.Elem{}) || is {
			t.Errorf("Min() of none = %v, %v", x, is)
		}
		if h, is := p.heap.Pop(m); is || h.Size() != 0 || h.Show() != "." {
			t.Errorf("Pop() of none = %s, %v", h.Show(), is)
		}
		if p.heap.Size() != 0 {
			t.Errorf("Size() of none = %d", p.heap.Size())
		}
		if h := p.heap.Meld(m, zero); h.Size() != 0 || h.Show() != "." {
			t.Errorf("Meld of none and none = %s", h.Show())
		}
		if h := boot.Of(m); h.Size() != 0 || h.Show() != "." {
			t.Errorf("Of none = %s", h.Show())
		}
		counted(t, "Of, Min, Pop, Size and Meld of none", m, steps{})
		shows(t, p.insert(t, el(7)), "[7:0]")
		shows(t, p.pop(t), ".")
		emptied(t, "none", p)
	}
}

// P11.1, P11.3: a heap of x alone is made, and then melded, as the first one: the one that stands ahead has the other one in its queue, whole.
func TestInsert(t *testing.T) {
	rows := []struct {
		what, was, want string
		l               []int64
		x               int64
		s               steps
	}{
		{"into the empty heap", ".", "[3:0]", nil, 3, steps{0, 1}},
		{"into a root alone, ahead", "[3:0]", "[1:0 [3:0]]", []int64{3}, 1, steps{1, 3}},
		{"into a root alone, behind", "[3:0]", "[3:0 [4:0]]", []int64{3}, 4, steps{1, 3}},
		{"into a root alone, equal", "[3:0]", "[3:0 [3:0]]", []int64{3}, 3, steps{1, 3}},
		{"into two, ahead", "[1:0 [3:0]]", "[0:0 [1:0 [3:0]]]", []int64{3, 1}, 0, steps{1, 3}},
		{"into two, between", "[1:0 [3:0]]", "[1:0 [2:0] [3:0]]", []int64{3, 1}, 2, steps{1, 3}},
		{"into two, behind", "[1:0 [3:0]]", "[1:0 [9:0] [3:0]]", []int64{3, 1}, 9, steps{1, 3}},
		{"into two, equal: what is put in wins", "[1:0 [3:0]]", "[1:0 [1:0 [3:0]]]", []int64{3, 1}, 1, steps{1, 3}},
		{"into three, ahead", "[1:0 [3:0] [2:0]]", "[0:0 [1:0 [3:0] [2:0]]]", []int64{2, 1, 3}, 0, steps{1, 3}},
		{"into three, equal", "[1:0 [3:0] [2:0]]", "[1:0 [1:0 [3:0] [2:0]]]", []int64{2, 1, 3}, 1, steps{1, 3}},
		{"by a skew link, the least of the queue", "[1:0 [4:0] [3:0]]", "[1:0 [2:0] [3:0] [4:0]]", []int64{1, 3, 4}, 2, steps{3, 4}},
		{"by a skew link, between", "[1:0 [4:0] [2:0]]", "[1:0 [2:0] [3:0] [4:0]]", []int64{1, 2, 4}, 3, steps{3, 4}},
		{"by a skew link, behind", "[1:0 [3:0] [2:0]]", "[1:0 [2:0] [9:0] [3:0]]", []int64{2, 1, 3}, 9, steps{3, 4}},
		{"as a leaf", "[1:0 [2:0] [4:0] [3:0]]", "[1:0 [5:0] [2:0] [4:0] [3:0]]", []int64{1, 2, 3, 4}, 5, steps{1, 3}},
		{"as a leaf, ahead of the queue", "[1:0 [3:0] [5:0] [4:0]]", "[1:0 [2:0] [3:0] [5:0] [4:0]]", []int64{1, 3, 4, 5}, 2, steps{1, 3}},
		{"ahead of a tree, whose heap stays whole", "[1:0 [2:0] [4:0] [3:0]]", "[0:0 [1:0 [2:0] [4:0] [3:0]]]", []int64{1, 2, 3, 4}, 0, steps{1, 3}},
		{"by a skew link of greater trees", "[1:0 [5:0] [7:0] [6:0] [2:0] [4:0] [3:0]]", "[1:0 [2:0] [8:0] [4:0] [5:0] [7:0] [6:0] [3:0]]", []int64{1, 2, 3, 4, 5, 6, 7}, 8, steps{3, 4}},
	}
	for _, r := range rows {
		p := of(t, els(r.l...)...)
		shows(t, p, r.was)
		m := meter.New()
		p.heap.Insert(m, el(r.x))
		counted(t, "Insert "+r.what, m, r.s)
		q := p.insert(t, el(r.x))
		shows(t, q, r.want)
		emptied(t, "Insert "+r.what, q)
		holds(t, "Insert "+r.what, p.heap, p.want)
	}
	// The Id tells, where the P doesn't.
	p := of(t, api.Elem{P: 1, Id: 5})
	shows(t, p.insert(t, api.Elem{P: 1, Id: 4}), "[1:4 [1:5]]")
	shows(t, p.insert(t, api.Elem{P: 1, Id: 6}), "[1:5 [1:6]]")
}

// P11.1: Of is one Insert after the other, in order, into the empty heap.
func TestOf(t *testing.T) {
	rows := []struct {
		want string
		l    []int64
	}{
		{".", nil},
		{"[5:0]", []int64{5}},
		{"[1:0 [2:0]]", []int64{1, 2}},
		{"[1:0 [2:0]]", []int64{2, 1}},
		{"[1:0 [3:0] [2:0]]", []int64{1, 2, 3}},
		{"[1:0 [2:0] [3:0]]", []int64{1, 3, 2}},
		{"[1:0 [2:0 [3:0]]]", []int64{3, 2, 1}},
		{"[1:0 [2:0 [3:0]]]", []int64{2, 3, 1}},
		{"[1:0 [2:0] [3:0]]", []int64{3, 1, 2}},
		{"[1:0 [1:0 [1:0]]]", []int64{1, 1, 1}},
		{"[1:0 [2:0] [4:0] [3:0]]", []int64{1, 2, 3, 4}},
		{"[1:0 [2:0 [3:0 [4:0]]]]", []int64{4, 3, 2, 1}},
		{"[1:0 [5:0] [2:0] [4:0] [3:0]]", []int64{1, 2, 3, 4, 5}},
		{"[1:0 [6:0] [5:0] [2:0] [4:0] [3:0]]", []int64{1, 2, 3, 4, 5, 6}},
		{"[1:0 [5:0] [7:0] [6:0] [2:0] [4:0] [3:0]]", []int64{1, 2, 3, 4, 5, 6, 7}},
		{"[1:0 [3:0] [2:0 [5:0] [4:0 [6:0]]]]", []int64{6, 4, 2, 5, 1, 3}},
	}
	for _, r := range rows {
		p := of(t, els(r.l...)...)
		shows(t, p, r.want)
		emptied(t, "Of", p)
		var one pair
		for _, x := range r.l {
			one = one.insert(t, el(x))
		}
		shows(t, one, r.want)
	}
}

// P11.1, P11.2: a queue is just what layer 9 makes of the heaps that are put into it, and tells them in its order.
func TestQueue(t *testing.T) {
	for n := range 60 {
		l := some(n)
		m, own := meter.New(), meter.New()
		h := boot.Of(m, api.Elem{P: -1}).Meld(m, boot.Heap{})
		for _, x := range l {
			h = h.Insert(m, x)
		}
		queue := skew.Of(own, l...)
		want := "[-1:0"
		for _, x := range queue.All() {
			want += " [" + text(x) + "]"
		}
		if got := h.Show(); got != want+"]" {
			t.Fatalf("Show() = %s, want %s]", got, want)
		}
		if h.Size() != queue.Size()+1 {
			t.Fatalf("Size() = %d, want %d", h.Size(), queue.Size()+1)
		}
		// Beside what the queue takes, each element makes a heap and is told apart from the root, and another heap is made; but the first one only makes one.
		if m.Steps() != own.Steps()+3*n+1 {
			t.Fatalf("%d elements: %d steps, want %d", n+1, m.Steps(), own.Steps()+3*n+1)
		}
		if n == 0 {
			continue
		}
		was, ownWas := m.Steps(), own.Steps()
		popped, is := h.Pop(m)
		least, _ := queue.Min(own)
		rest, _ := queue.Pop(own)
		rest = skew.Of[api.Elem](own).Meld(own, rest)
		want = "[" + text(least)
		for _, x := range rest.All() {
			want += " [" + text(x) + "]"
		}
		if got := popped.Show(); got != want+"]" || !is {
			t.Fatalf("Pop() = %s, %v, want %s]", got, is, want)
		}
		if m.Since(was) != own.Since(ownWas)+1 {
			t.Fatalf("Pop() of %s: %d steps, want %d", h.Show(), m.Since(was), own.Since(ownWas)+1)
		}
	}
}

// P11.1: what is handed to Of isn't changed, and isn't kept.
func TestOfKeepsNothing(t *testing.T) {
	l := els(4, 2, 2, 9, -1)
	given := slices.Clone(l)
	h := boot.Of(nil, l...)
	if !slices.Equal(l, given) {
		t.Errorf("Of changed its list: %v", l)
	}
	clear(l)
	p := pair{h, modelOf(new(steps), given...)}
	holds(t, "behind a change of the list", h, p.want)
	emptied(t, "behind a change of the list", p)
}

// P11.1: Meld where one has no elements is the other one, just as it is, and where both have none is none: no steps.
func TestMeldOfEmpty(t *testing.T) {
	for _, l := range [][]api.Elem{nil, els(5), els(5, 6), els(2, 1, 3), els(3, 3, 3, 3), els(1, 2, 3, 4, 5, 6, 7), els(4, 3, 2, 1), some(13)} {
		p := of(t, l...)
		for _, none := range []pair{{}, of(t), of(t, el(0)).pop(t)} {
			m := meter.New()
			ahead, behind := p.heap.Meld(m, none.heap), none.heap.Meld(m, p.heap)
			counted(t, "Meld where one is empty", m, steps{})
			holds(t, "Meld, the second one empty", ahead, p.want)
			holds(t, "Meld, the first one empty", behind, p.want)
			holds(t, "Meld of empty, without a meter", p.heap.Meld(nil, none.heap), p.want)
			holds(t, "Meld of empty and a heap, without a meter", none.heap.Meld(nil, p.heap), p.want)
			shows(t, none, ".")
			emptied(t, "Meld of empty", pair{ahead, p.want})
		}
	}
}

// P11.1, P11.3: the winner's root, and its queue, into which the loser is put whole; of equal roots the first one is the winner.
func TestMeld(t *testing.T) {
	rows := []struct {
		what, was, of, want string
		h, o                []int64
		s                   steps
	}{
		{"roots alone, the first one ahead", "[1:0]", "[2:0]", "[1:0 [2:0]]", []int64{1}, []int64{2}, steps{1, 2}},
		{"roots alone, the second one ahead", "[2:0]", "[1:0]", "[1:0 [2:0]]", []int64{2}, []int64{1}, steps{1, 2}},
		{"roots alone, equal", "[1:0]", "[1:0]", "[1:0 [1:0]]", []int64{1}, []int64{1}, steps{1, 2}},
		{"the second one a root alone, ahead", "[2:0 [3:0]]", "[1:0]", "[1:0 [2:0 [3:0]]]", []int64{2, 3}, []int64{1}, steps{1, 2}},
		{"the second one a root alone, behind", "[2:0 [3:0]]", "[9:0]", "[2:0 [9:0] [3:0]]", []int64{2, 3}, []int64{9}, steps{1, 2}},
		{"the second one a root alone, equal", "[2:0 [3:0]]", "[2:0]", "[2:0 [2:0] [3:0]]", []int64{2, 3}, []int64{2}, steps{1, 2}},
		{"the first one a root alone, ahead", "[1:0]", "[2:0 [3:0]]", "[1:0 [2:0 [3:0]]]", []int64{1}, []int64{2, 3}, steps{1, 2}},
		{"the first one a root alone, behind", "[9:0]", "[2:0 [3:0]]", "[2:0 [9:0] [3:0]]", []int64{9}, []int64{2, 3}, steps{1, 2}},
		{"the first one a root alone, equal", "[2:0]", "[2:0 [3:0]]", "[2:0 [2:0 [3:0]]]", []int64{2}, []int64{2, 3}, steps{1, 2}},
		{"a leaf each, the first one ahead", "[1:0 [3:0]]", "[2:0 [4:0]]", "[1:0 [2:0 [4:0]] [3:0]]", []int64{1, 3}, []int64{2, 4}, steps{1, 2}},
		{"a leaf each, the second one ahead", "[2:0 [4:0]]", "[1:0 [3:0]]", "[1:0 [2:0 [4:0]] [3:0]]", []int64{2, 4}, []int64{1, 3}, steps{1, 2}},
		{"a leaf each, equal roots: the first one wins", "[1:0 [3:0]]", "[1:0 [4:0]]", "[1:0 [1:0 [4:0]] [3:0]]", []int64{1, 3}, []int64{1, 4}, steps{1, 2}},
		{"by a skew link, the first one ahead", "[1:0 [3:0] [2:0]]", "[4:0 [6:0] [5:0]]", "[1:0 [2:0] [4:0 [6:0] [5:0]] [3:0]]", []int64{1, 2, 3}, []int64{4, 5, 6}, steps{3, 3}},
		{"by a skew link, the second one ahead", "[4:0 [6:0] [5:0]]", "[1:0 [3:0] [2:0]]", "[1:0 [2:0] [4:0 [6:0] [5:0]] [3:0]]", []int64{4, 5, 6}, []int64{1, 2, 3}, steps{3, 3}},
		{"by a skew link, equal roots", "[1:0 [3:0] [2:0]]", "[1:0 [6:0] [5:0]]", "[1:0 [1:0 [6:0] [5:0]] [2:0] [3:0]]", []int64{1, 2, 3}, []int64{1, 5, 6}, steps{3, 3}},
		{"by a skew link, the loser the least of the queue", "[1:0 [5:0] [4:0]]", "[2:0 [3:0]]", "[1:0 [2:0 [3:0]] [4:0] [5:0]]", []int64{1, 4, 5}, []int64{2, 3}, steps{3, 3}},
		{"by a skew link, the loser equal to the least of the queue", "[1:0 [5:0] [4:0]]", "[4:0 [6:0]]", "[1:0 [4:0 [6:0]] [4:0] [5:0]]", []int64{1, 4, 5}, []int64{4, 6}, steps{3, 3}},
		{"as a leaf, ahead of a tree", "[1:0 [2:0] [4:0] [3:0]]", "[5:0 [6:0]]", "[1:0 [5:0 [6:0]] [2:0] [4:0] [3:0]]", []int64{1, 2, 3, 4}, []int64{5, 6}, steps{1, 2}},
		{"the loser's queue is as it was, the first one ahead", "[1:0]", "[4:0 [6:0] [5:0]]", "[1:0 [4:0 [6:0] [5:0]]]", []int64{1}, []int64{4, 5, 6}, steps{1, 2}},
		{"the loser's queue is as it was, the second one ahead", "[5:0 [6:0] [8:0] [7:0]]", "[1:0 [3:0] [2:0]]", "[1:0 [2:0] [5:0 [6:0] [8:0] [7:0]] [3:0]]", []int64{5, 6, 7, 8}, []int64{1, 2, 3}, steps{3, 3}},
	}
	for _, r := range rows {
		h, o := of(t, els(r.h...)...), of(t, els(r.o...)...)
		shows(t, h, r.was)
		shows(t, o, r.of)
		m := meter.New()
		h.heap.Meld(m, o.heap)
		counted(t, r.what, m, r.s)
		p := h.meld(t, o)
		if got := p.heap.Show(); got != r.want {
			t.Errorf("%s: Show() = %s, want %s", r.what, got, r.want)
		}
		holds(t, r.what, p.heap, p.want)
		emptied(t, r.what, p)
		holds(t, r.what, h.heap, h.want)
		holds(t, r.what, o.heap, o.want)
	}
	// The Id tells, where the P doesn't.
	a, b := of(t, api.Elem{P: 1, Id: -1}), of(t, api.Elem{P: 1, Id: -2})
	shows(t, a.meld(t, b), "[1:-2 [1:-1]]")
	shows(t, b.meld(t, a), "[1:-2 [1:-1]]")
}

// whole is a root alone, melded with heaps, none of which has a root that stands ahead: they are its queue, put in one by one.
func whole(t *testing.T, root int64, queue ...pair) pair {
	t.Helper()
	p := of(t, el(root))
	for _, q := range queue {
		p = p.meld(t, q)
	}
	return p
}

// P11.2: the root of the queue's least one, and that one's queue melded with the queue without it.
func TestPop(t *testing.T) {
	alone := func(p int64) pair { return whole(t, p) }
	rows := []struct {
		what, was, want string
		p               pair
		s               steps
	}{
		{"a root alone", "[4:0]", ".", alone(4), steps{}},
		{"a queue of one, its queue empty", "[1:0 [2:0]]", "[2:0]", whole(t, 1, alone(2)), steps{0, 1}},
		{"a queue of one, its queue empty, equal", "[1:0 [1:0]]", "[1:0]", whole(t, 1, alone(1)), steps{0, 1}},
		{"a queue of one, and one below", "[0:0 [1:0 [3:0]]]", "[1:0 [3:0]]", whole(t, 0, whole(t, 1, alone(3))), steps{0, 1}},
		{"a queue of one, and two below, which are levelled", "[0:0 [1:0 [3:0] [2:0]]]", "[1:0 [2:0] [3:0]]", whole(t, 0, whole(t, 1, alone(2), alone(3))), steps{1, 2}},
		{"two leaves, the first one", "[1:0 [2:0] [3:0]]", "[2:0 [3:0]]", whole(t, 1, alone(3), alone(2)), steps{2, 1}},
		{"two leaves, the last one", "[1:0 [3:0] [2:0]]", "[2:0 [3:0]]", whole(t, 1, alone(2), alone(3)), steps{2, 1}},
		{"two equal ones: the first one", "[0:0 [2:0 [6:0]] [2:0 [5:0]]]", "[2:0 [2:0 [5:0]] [6:0]]", whole(t, 0, whole(t, 2, alone(5)), whole(t, 2, alone(6))), steps{3, 2}},
		{"two equal ones: the first one, its queue empty", "[0:0 [2:0] [2:0 [5:0]]]", "[2:0 [2:0 [5:0]]]", whole(t, 0, whole(t, 2, alone(5)), alone(2)), steps{2, 1}},
		{"its queue is melded as the first one", "[0:0 [5:0 [9:0]] [1:0 [5:0 [8:0]]]]", "[1:0 [5:0 [8:0]] [5:0 [9:0]]]", whole(t, 0, whole(t, 1, whole(t, 5, alone(8))), whole(t, 5, alone(9))), steps{3, 2}},
		{"its queue is melded as the first one, the other way round", "[0:0 [5:0 [8:0]] [1:0 [5:0 [9:0]]]]", "[1:0 [5:0 [9:0]] [5:0 [8:0]]]", whole(t, 0, whole(t, 1, whole(t, 5, alone(9))), whole(t, 5, alone(8))), steps{3, 2}},
		{"its queue is levelled", "[0:0 [8:0] [1:0 [3:0] [2:0]]]", "[1:0 [8:0] [2:0] [3:0]]", whole(t, 0, whole(t, 1, alone(2), alone(3)), alone(8)), steps{3, 2}},
		{"both queues are levelled", "[0:0 [1:0 [3:0] [2:0]] [9:0] [8:0]]", "[1:0 [2:0] [8:0] [9:0] [3:0]]", whole(t, 0, whole(t, 1, alone(2), alone(3)), alone(8), alone(9)), steps{3, 5}},
		{"one tree, one beside, which is levelled", "[1:0 [2:0] [4:0] [3:0]]", "[2:0 [3:0] [4:0]]", whole(t, 1, alone(2), alone(3), alone(4)), steps{1, 3}},
		{"three trees", "[1:0 [6:0] [5:0] [2:0] [4:0] [3:0]]", "[2:0 [3:0] [5:0] [6:0] [4:0]]", whole(t, 1, alone(2), alone(3), alone(4), alone(5), alone(6)), steps{7, 5}},
	}
	for _, r := range rows {
		shows(t, r.p, r.was)
		m := meter.New()
		if _, is := r.p.heap.Pop(m); !is {
			t.Errorf("%s: Pop() of %s: false", r.what, r.p.heap.Show())
		}
		counted(t, "Pop, "+r.what, m, r.s)
		q := r.p.pop(t)
		shows(t, q, r.want)
		if q.heap.Size() != r.p.heap.Size()-1 {
			t.Errorf("Pop() of %s: Size() = %d", r.p.heap.Show(), q.heap.Size())
		}
		emptied(t, "Pop, "+r.what, r.p)
	}
}

// P11.2, P11.3: Min is the root, by no step, and takes nothing out.
func TestMin(t *testing.T) {
	p := of(t, els(8, 3, 5, 3, 9, 4, 2)...)
	shows(t, p, "[2:0 [3:0 [3:0 [5:0] [8:0]] [4:0] [9:0]]]")
	m := meter.New()
	for range 5 {
		if x, is := p.heap.Min(m); x != el(2) || !is {
			t.Errorf("Min() = %v, %v", x, is)
		}
	}
	counted(t, "Min", m, steps{})
	holds(t, "asked for its least element", p.heap, p.want)
	// Wherever it was put in, it is told.
	for n := range 12 {
		for i := range n {
			l := slices.Repeat(els(4), n)
			l[i] = el(3)
			h := boot.Of(nil, l...)
			if x, is := h.Min(nil); x != el(3) || !is {
				t.Errorf("Min() = %v, %v", x, is)
			}
			if h, _ = h.Pop(nil); h.Size() != n-1 {
				t.Errorf("Size() = %d", h.Size())
			}
		}
	}
	// A zero element that is there is told as one; and one that isn't, isn't.
	if x, is := boot.Of(nil, api.Elem{}, el(1)).Min(m); x != (api.Elem{}) || !is {
		t.Errorf("Min() = %v, %v", x, is)
	}
	if x, is := boot.Of(nil, el(1), el(2), el(3)).Min(nil); x != el(1) || !is {
		t.Errorf("Min() = %v, %v", x, is)
	}
}

// P11.2: a heap's text ends each heap behind the last one of its queue, and tells each one as it tells itself alone.
func TestShow(t *testing.T) {
	a, b := of(t, els(4, 5, 6)...), of(t, els(9, 8, 7)...)
	shows(t, a, "[4:0 [6:0] [5:0]]")
	shows(t, b, "[7:0 [8:0 [9:0]]]")
	p := whole(t, 0, a, b, pair{}, whole(t, 2))
	shows(t, p, "[0:0 [2:0] [4:0 [6:0] [5:0]] [7:0 [8:0 [9:0]]]]")
	shows(t, whole(t, -1, p, a), "[-1:0 [4:0 [6:0] [5:0]] [0:0 [2:0] [4:0 [6:0] [5:0]] [7:0 [8:0 [9:0]]]]]")
	shows(t, whole(t, -1, p, p), "[-1:0 [0:0 [2:0] [4:0 [6:0] [5:0]] [7:0 [8:0 [9:0]]]] [0:0 [2:0] [4:0 [6:0] [5:0]] [7:0 [8:0 [9:0]]]]]")
	shows(t, of(t, api.Elem{P: -5, Id: 3}, api.Elem{P: -5, Id: -4}), "[-5:-4 [-5:3]]")
	emptied(t, "shown", p)
}

// edges are elements at both ends of what 64 bits hold.
func edges() []api.Elem {
	var l []api.Elem
	for _, p := range []int64{math.MinInt64, math.MinInt64 + 1, -1, 0, 1, math.MaxInt64 - 1, math.MaxInt64} {
		for _, id := range []int64{math.MinInt64, -1, 0, math.MaxInt64} {
			l = append(l, api.Elem{P: p, Id: id})
		}
	}
	return l
}

// P11.1, P11.2, P11.3: elements at both ends of 64 bits are elements as others are.
func TestEdges(t *testing.T) {
	low, high := api.Elem{P: math.MinInt64, Id: math.MaxInt64}, api.Elem{P: math.MaxInt64, Id: math.MinInt64}
	lowText, highText := "-9223372036854775808:9223372036854775807", "9223372036854775807:-9223372036854775808"
	want := "[" + lowText + " [" + highText + "]]"
	shows(t, of(t, low, high), want)
	shows(t, of(t, high, low), want)
	shows(t, of(t, high).meld(t, of(t, low)), want)
	shows(t, of(t, low).meld(t, of(t, high)), want)
	shows(t, of(t, low, high).pop(t), "["+highText+"]")
	shows(t, of(t, low, high, low), "["+lowText+" "+want+"]")
	l := edges()
	for first := range l {
		var mixed []api.Elem
		for i := range l {
			mixed = append(mixed, l[(first+i*11)%len(l)])
		}
		p := of(t, mixed...)
		holds(t, "Of the edges", p.heap, p.want)
		emptied(t, "the edges", p)
		half := of(t, mixed[:14]...).meld(t, of(t, mixed[14:]...))
		holds(t, "Meld of the edges", half.heap, half.want)
		emptied(t, "the edges, melded", half)
		if !slices.Equal(half.want.inOrder(), l) {
			t.Fatalf("elements went astray: %s", half.heap.Show())
		}
	}
}

// P11.3: equal elements are there as often as they were put in.
func TestEqualElements(t *testing.T) {
	for n := range 40 {
		same := of(t, slices.Repeat(els(5), n)...)
		holds(t, "equal elements", same.heap, same.want)
		if same.heap.Size() != n {
			t.Errorf("Size() = %d, want %d", same.heap.Size(), n)
		}
		for _, p := range []pair{same, same.insert(t, el(5)), same.insert(t, el(4)), same.insert(t, el(6)), same.meld(t, same), same.meld(t, of(t, els(5, 4, 6, 5)...))} {
			holds(t, "and others", p.heap, p.want)
			emptied(t, "and others", p)
		}
	}
}

// P11.1, P11.3: a heap melded with itself has each element twice, and is there as it was.
func TestMeldWithItself(t *testing.T) {
	p := of(t, els(2, 1, 3)...)
	twice := p.meld(t, p)
	shows(t, p, "[1:0 [3:0] [2:0]]")
	shows(t, twice, "[1:0 [1:0 [3:0] [2:0]] [2:0] [3:0]]")
	if !slices.Equal(twice.want.inOrder(), els(1, 1, 2, 2, 3, 3)) {
		t.Errorf("twice: %s", twice.heap.Show())
	}
	emptied(t, "twice", twice)
	one := of(t, el(4))
	shows(t, one.meld(t, one), "[4:0 [4:0]]")
	shows(t, one, "[4:0]")
	two := of(t, els(4, 6)...)
	shows(t, two.meld(t, two), "[4:0 [4:0 [6:0]] [6:0]]")
	shows(t, two, "[4:0 [6:0]]")
	// Heaps of a queue that it shares with one that came of it are melded as those of any other.
	most := p.pop(t)
	for _, q := range []pair{p.meld(t, most), most.meld(t, p), twice.meld(t, p), p.insert(t, el(0)).meld(t, p), p.insert(t, el(0)).pop(t).meld(t, p)} {
		holds(t, "melded with what came of it", q.heap, q.want)
		emptied(t, "melded with what came of it", q)
	}
	shows(t, p, "[1:0 [3:0] [2:0]]")
}

// P11.1, P11.2, P11.3: every way to put in up to 6 elements, and to take them out again.
func TestAllSmall(t *testing.T) {
	for n := range 7 {
		for code := range 1 << (2 * n) {
			var l []api.Elem
			for i := range n {
				l = append(l, el(int64(code>>(2*i)&3)))
			}
			p := of(t, l...)
			holds(t, "Of a few", p.heap, p.want)
			if n == 6 && code%17 != 0 {
				continue
			}
			emptied(t, "a few", p)
			for i := range n + 1 {
				q := of(t, l[:i]...).meld(t, of(t, l[i:]...))
				holds(t, "Meld of a few", q.heap, q.want)
			}
		}
	}
}

// P11.1, P11.2, P11.3: a heap of each size melded with one of each size, and popped.
func TestAllSizes(t *testing.T) {
	var heaps []pair
	for n := range 24 {
		heaps = append(heaps, of(t, some(n)...))
	}
	for _, h := range heaps {
		for _, o := range heaps {
			p := h.meld(t, o)
			holds(t, "melded", p.heap, p.want)
			q := p.pop(t).insert(t, el(5)).pop(t)
			holds(t, "melded, popped, put in and popped", q.heap, q.want)
		}
		emptied(t, "melded with others", h)
	}
}

// versions makes heaps of heaps, and fails unless each is what it has to be, when it is made and at the end.
func versions(t *testing.T, rounds int, x func(n int) api.Elem) {
	t.Helper()
	all := []pair{{}, of(t, x(0)), of(t, x(1), x(2)), of(t, x(1), x(2), x(3))}
	for n := range rounds {
		a, b := all[n*7919%len(all)], all[n*104729%len(all)]
		made := []pair{a.insert(t, x(n)), a.insert(t, x(n+3)).insert(t, x(n)), a.meld(t, b), b.meld(t, a), a.meld(t, a), a.pop(t), b.pop(t), b.insert(t, x(n+1)), of(t, x(n), x(n+2), x(n+5))}
		for _, p := range made {
			holds(t, "just made", p.heap, p.want)
			// Heaps that are melded with themselves would double without end.
			if p.heap.Size() <= 60 {
				all = append(all, p)
			}
		}
		holds(t, "what it came of", a.heap, a.want)
		holds(t, "the other one", b.heap, b.want)
	}
	for i, p := range all {
		if i%7 == 0 {
			emptied(t, "at the end", p)
		}
	}
	for _, p := range all {
		holds(t, "at the end", p.heap, p.want)
	}
}

// P11.3: whatever is done with heaps from which others were made, each stays as it is, and all that is in it can be taken out.
func TestVersionsStay(t *testing.T) {
	elements := []func(n int) api.Elem{
		func(n int) api.Elem { return api.Elem{P: int64(n*31%11) - 5, Id: int64(n % 3)} },
		func(n int) api.Elem { return el(int64(n * 17 % 4)) },
		func(n int) api.Elem { return el(int64(-n)) },
		func(n int) api.Elem { return api.Elem{P: int64(n), Id: int64(-n)} },
		func(n int) api.Elem { return edges()[n*13%28] },
	}
	for _, x := range elements {
		versions(t, 120, x)
	}
}

// P11.1, P11.2: one meter counts all calls together, and Min, Size and Show take no step.
func TestStepsTogether(t *testing.T) {
	m := meter.New()
	a := boot.Of(m, els(2, 1, 3)...)
	counted(t, "Of", m, steps{2, 7})
	b := a.Insert(m, el(4))
	counted(t, "and Insert by a skew link", m, steps{5, 11})
	c := b.Insert(m, el(0))
	counted(t, "and Insert ahead", m, steps{6, 14})
	if got := c.Show(); got != "[0:0 [1:0 [2:0] [4:0] [3:0]]]" {
		t.Errorf("Show() = %s", got)
	}
	d := c.Meld(m, boot.Of(nil, els(6, 7)...))
	counted(t, "and Meld", m, steps{7, 16})
	if got := d.Show(); got != "[0:0 [6:0 [7:0]] [1:0 [2:0] [4:0] [3:0]]]" {
		t.Errorf("Show() = %s", got)
	}
	e, _ := d.Pop(m)
	// Min and Pop of two trees; the queue of 1:0 is a tree of rank 1, ahead of which 6:0 stands; and a heap is made.
	counted(t, "and Pop", m, steps{9, 17})
	if got := e.Show(); got != "[1:0 [6:0 [7:0]] [2:0] [4:0] [3:0]]" {
		t.Errorf("Show() = %s", got)
	}
	for _, h := range []boot.Heap{{}, a, b, c, d, e} {
		h.Min(m)
		h.Size()
		if h.Show() == "" {
			t.Error("Show() is empty")
		}
	}
	counted(t, "and asks", m, steps{9, 17})
	if got := m.Steps(); got != 26 {
		t.Errorf("Steps() = %d", got)
	}
}

// P11.1, P11.2, P11.3: many elements, in an order of their own, come out in order, by as many steps as the model's, none of the calls by more than it may.
func TestMany(t *testing.T) {
	const n = 1 << 12
	var l []api.Elem
	for i := range int64(n) {
		l = append(l, api.Elem{P: i * 2741 % 4099 % 511, Id: i % 5})
	}
	p := of(t, l...)
	half := of(t, l[:n/2]...).meld(t, of(t, l[n/2:]...))
	rows := whole(t, math.MinInt64)
	for i := range 64 {
		rows = rows.meld(t, of(t, l[n/64*i:n/64*(i+1)]...))
	}
	rows = rows.pop(t)
	slices.SortFunc(l, order)
	for _, q := range []pair{p, half, rows} {
		holds(t, "many", q.heap, q.want)
		var s steps
		m := meter.New()
		h, want := q.heap, q.want
		for i, x := range l {
			if got, is := h.Min(m); got != x || !is || h.Size() != n-i {
				t.Fatalf("%d popped: Min() = %v, %v, want %v; Size() = %d", i, got, is, x, h.Size())
			}
			was := m.Steps()
			h, _ = h.Pop(m)
			if most := 14 * bits.Len(uint(n-i)); m.Since(was) > most {
				t.Fatalf("%d popped: Pop() makes %d steps, and may make %d", i, m.Since(was), most)
			}
			want = want.pop(&s)
		}
		counted(t, "Min and Pop of many", m, s)
		if h.Size() != 0 || want != nil {
			t.Errorf("all popped: Size() = %d", h.Size())
		}
		holds(t, "many, and popped", q.heap, q.want)
	}
}

// P11.1, P11.2, P11.3: of 2^31 elements too, which are one heap melded with itself again and again, all is told.
func TestTwiceAndTwice(t *testing.T) {
	for _, l := range [][]api.Elem{els(2, 1, 3), els(2, 1), els(9, 1, 8, 2, 7)} {
		h, want := boot.Of(nil, l...), modelOf(new(steps), l...)
		var s steps
		m := meter.New()
		size := len(l)
		for size <= 1<<30 {
			was := m.Steps()
			h, want = h.Meld(m, h), want.meld(&s, want)
			size *= 2
			if x, is := h.Min(m); x != el(1) || !is || h.Size() != size || m.Since(was) > 6 {
				t.Fatalf("Min() = %v, %v, Size() = %d, want %d; %d steps", x, is, h.Size(), size, m.Since(was))
			}
		}
		counted(t, "Meld with itself", m, s)
		for i := range 5000 {
			was := m.Steps()
			h, _ = h.Pop(m)
			want = want.pop(&s)
			if x, is := h.Min(m); x != want.root || !is || h.Size() != size-1-i || m.Since(was) > 14*bits.Len(uint(size-i)) {
				t.Fatalf("Min() = %v, %v, Size() = %d; %d steps", x, is, h.Size(), m.Since(was))
			}
		}
		h = h.Insert(m, el(0)).Insert(m, el(9)).Insert(m, el(4))
		want = want.insert(&s, el(0)).insert(&s, el(9)).insert(&s, el(4))
		counted(t, "and Pop and Insert", m, s)
		if x, is := h.Min(nil); x != el(0) || !is || h.Size() != size-4997 {
			t.Errorf("Min() = %v, %v, Size() = %d", x, is, h.Size())
		}
	}
}

// P11.1, P11.2, P11.3: a queue too may be of very many heaps that are few, melded with itself again and again.
func TestQueueOfMany(t *testing.T) {
	h, want := boot.Of(nil, els(1, 5, 3, 4)...), modelOf(new(steps), els(1, 5, 3, 4)...)
	var s steps
	m := meter.New()
	size := 4
	for size < 1<<29 {
		// The two queues, of the same heaps, are melded when both roots are popped.
		h, want = boot.Of(m, el(0)).Meld(m, h).Meld(m, h), want.twice(&s)
		for range 2 {
			h, _ = h.Pop(m)
			want = want.pop(&s)
		}
		size = 2*size - 1
		if x, is := h.Min(m); x != el(1) || !is || h.Size() != size {
			t.Fatalf("Min() = %v, %v, Size() = %d, want %d", x, is, h.Size(), size)
		}
	}
	counted(t, "a queue melded with itself", m, s)
}

// twice is a heap put twice into the queue of 0:0.
func (k *model) twice(s *steps) *model {
	return s.build(el(0), nil).meld(s, k).meld(s, k)
}

// P11.1, P11.2: heaps that lie one below the other, each the only one of a queue, are told, and popped, however deep they lie.
func TestDeep(t *testing.T) {
	const n = 1 << 16
	var h boot.Heap
	for i := range int64(n) {
		h = h.Insert(nil, el(-i))
	}
	var want strings.Builder
	for i := range int64(n) {
		want.WriteString("[" + text(el(i-n+1)))
		if i < n-1 {
			want.WriteString(" ")
		}
	}
	want.WriteString(strings.Repeat("]", n))
	if h.Show() != want.String() || h.Size() != n {
		t.Errorf("Show() is another text than that of heaps below each other; Size() = %d", h.Size())
	}
	for i := range int64(n) {
		m := meter.New()
		x, is := h.Min(m)
		if x != el(i-n+1) || !is {
			t.Fatalf("%d popped: Min() = %v, %v", i, x, is)
		}
		h, _ = h.Pop(m)
		if made := min(n-1-int(i), 1); m.Steps() != made {
			t.Fatalf("%d popped: Pop() makes %d steps, want %d", i, m.Steps(), made)
		}
	}
	if h.Size() != 0 || h.Show() != "." {
		t.Errorf("all popped: Size() = %d, Show() = %s", h.Size(), h.Show())
	}
}
