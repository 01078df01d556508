package rooted_test

import (
	"math"
	"math/bits"
	"slices"
	"strconv"
	"strings"
	"testing"

	"slagheap/api"
	"slagheap/meter"
	"slagheap/rooted"
	"slagheap/skew"
)

// model is a heap as the document tells it, written without the package's own calls: its root, and all others; nil is none.
type model struct {
	root   api.Elem
	others trees
}

// trees is the others as layer 9 tells them, in order.
type trees []*branch

// branch is a tree: its root, what stands beside that, its rank, and its kids, the greatest one first.
type branch struct {
	root   api.Elem
	beside []api.Elem
	rank   int
	kids   []*branch
}

// steps is how many comparisons a model takes, and how many things made.
type steps struct{ compared, made int }

// before is the order of elements, by what the document says of it.
func before(a, b api.Elem) bool { return a.P < b.P || a.P == b.P && a.Id < b.Id }

// order is how two elements stand, for the library's sorting.
func order(a, b api.Elem) int {
	if before(a, b) {
		return -1
	}
	if before(b, a) {
		return 1
	}
	return 0
}

// less is how two elements stand, which takes a comparison.
func (s *steps) less(a, b api.Elem) bool {
	s.compared++
	return before(a, b)
}

// text is an element's text.
func text(e api.Elem) string {
	return strconv.FormatInt(e.P, 10) + ":" + strconv.FormatInt(e.Id, 10)
}

func (b *branch) show() string {
	s := "(" + text(b.root)
	for _, x := range b.beside {
		s += " +" + text(x)
	}
	for _, kid := range b.kids {
		s += " " + kid.show()
	}
	return s + ")"
}

func (k trees) show() string {
	if len(k) == 0 {
		return "."
	}
	var l []string
	for _, b := range k {
		l = append(l, b.show())
	}
	return strings.Join(l, " ")
}

func (k trees) all() []api.Elem {
	var l []api.Elem
	for _, b := range k {
		l = append(append(l, b.root), b.beside...)
		l = append(l, trees(b.kids).all()...)
	}
	return l
}

// leaf is a tree of an element alone.
func (s *steps) leaf(x api.Elem) *branch {
	s.made++
	return &branch{root: x}
}

// link is one tree of two: the second one is the winner just if its root stands ahead.
func (s *steps) link(a, b *branch) *branch {
	if s.less(b.root, a.root) {
		a, b = b, a
	}
	s.made++
	return &branch{a.root, a.beside, a.rank + 1, slices.Concat([]*branch{b}, a.kids)}
}

// skewed is one tree of two, and an element.
func (s *steps) skewed(x api.Elem, a, b *branch) *branch {
	u := s.link(a, b)
	root := u.root
	if !s.less(root, x) {
		root, x = x, root
	}
	s.made++
	return &branch{root, slices.Concat([]api.Elem{x}, u.beside), u.rank, u.kids}
}

// ahead is a tree put ahead of trees.
func (s *steps) ahead(b *branch, k trees) trees {
	if len(k) > 0 && k[0].rank == b.rank {
		return s.ahead(s.link(b, k[0]), k[1:])
	}
	return slices.Concat(trees{b}, k)
}

func (k trees) insert(s *steps, x api.Elem) trees {
	if len(k) > 1 && k[0].rank == k[1].rank {
		return slices.Concat(trees{s.skewed(x, k[0], k[1])}, k[2:])
	}
	return slices.Concat(trees{s.leaf(x)}, k)
}

func (k trees) levelled(s *steps) trees {
	if len(k) == 0 {
		return nil
	}
	return s.ahead(k[0], k[1:])
}

// melded is trees melded, of rows whose ranks all rise.
func (s *steps) melded(h, o trees) trees {
	if len(h) == 0 {
		return o
	}
	if len(o) == 0 {
		return h
	}
	f, g := h[0], o[0]
	if f.rank < g.rank {
		return slices.Concat(trees{f}, s.melded(h[1:], o))
	}
	if g.rank < f.rank {
		return slices.Concat(trees{g}, s.melded(h, o[1:]))
	}
	rest := s.melded(h[1:], o[1:])
	return s.ahead(s.link(f, g), rest)
}

func (k trees) meld(s *steps, o trees) trees {
	first := k.levelled(s)
	return s.melded(first, o.levelled(s))
}

// least is the place of the tree with the least root, the first one of several.
func (k trees) least(s *steps) int {
	place := 0
	for i := 1; i < len(k); i++ {
		if s.less(k[i].root, k[place].root) {
			place = i
		}
	}
	return place
}

func (k trees) pop(s *steps) trees {
	i := k.least(s)
	kids := slices.Clone(k[i].kids)
	slices.Reverse(kids)
	out := s.melded(kids, slices.Concat(k[:i], k[i+1:]).levelled(s))
	for _, x := range k[i].beside {
		out = out.insert(s, x)
	}
	return out
}

// build is a heap, which is made.
func (s *steps) build(root api.Elem, others trees) *model {
	s.made++
	return &model{root, others}
}

func (k *model) insert(s *steps, x api.Elem) *model {
	if k == nil {
		return s.build(x, nil)
	}
	if s.less(x, k.root) {
		return s.build(x, k.others.insert(s, k.root))
	}
	return s.build(k.root, k.others.insert(s, x))
}

func (k *model) meld(s *steps, o *model) *model {
	if k == nil {
		return o
	}
	if o == nil {
		return k
	}
	winner, loser := k, o
	if s.less(o.root, k.root) {
		winner, loser = o, k
	}
	return s.build(winner.root, k.others.meld(s, o.others).insert(s, loser.root))
}

func (k *model) pop(s *steps) *model {
	if k == nil || len(k.others) == 0 {
		return nil
	}
	least := k.others[k.others.least(s)].root
	return s.build(least, k.others.pop(s))
}

func (k *model) all() []api.Elem {
	if k == nil {
		return nil
	}
	return append(k.others.all(), k.root)
}

// inOrder is all elements of a model, the least one first.
func (k *model) inOrder() []api.Elem {
	l := k.all()
	slices.SortFunc(l, order)
	return l
}

func (k *model) show() string {
	if k == nil {
		return "."
	}
	return text(k.root) + " " + k.others.show()
}

// modelOf is the elements put into the empty heap, in order.
func modelOf(s *steps, l ...api.Elem) *model {
	var k *model
	for _, x := range l {
		k = k.insert(s, x)
	}
	return k
}

// pair is a heap, and what it has to be for ever.
type pair struct {
	heap rooted.Heap
	want *model
}

// counted fails, unless so many comparisons and things made were counted since the meter was new.
func counted(t *testing.T, what string, m *meter.Meter, want steps) {
	t.Helper()
	if c, n := m.Split(); c != want.compared || n != want.made {
		t.Fatalf("%s: %d comparisons, %d made, want %d, %d", what, c, n, want.compared, want.made)
	}
}

// of is Of by a meter of its own, and without one.
func of(t *testing.T, l ...api.Elem) pair {
	t.Helper()
	var s steps
	m := meter.New()
	p := pair{rooted.Of(m, l...), modelOf(&s, l...)}
	counted(t, "Of", m, s)
	holds(t, "Of without a meter", rooted.Of(nil, l...), p.want)
	return p
}

// insert is Insert by a meter of its own, and without one; it makes seven steps at most.
func (p pair) insert(t *testing.T, x api.Elem) pair {
	t.Helper()
	var s steps
	m := meter.New()
	q := pair{p.heap.Insert(m, x), p.want.insert(&s, x)}
	counted(t, "Insert", m, s)
	if m.Steps() < 1 || m.Steps() > 7 {
		t.Fatalf("Insert into %s: %d steps", p.want.show(), m.Steps())
	}
	holds(t, "Insert without a meter", p.heap.Insert(nil, x), q.want)
	return q
}

// meld is Meld by a meter of its own, and without one.
func (p pair) meld(t *testing.T, o pair) pair {
	t.Helper()
	var s steps
	m := meter.New()
	q := pair{p.heap.Meld(m, o.heap), p.want.meld(&s, o.want)}
	counted(t, "Meld", m, s)
	holds(t, "Meld without a meter", p.heap.Meld(nil, o.heap), q.want)
	return q
}

// pop is Pop by a meter of its own, and without one.
func (p pair) pop(t *testing.T) pair {
	t.Helper()
	var s steps
	want := p.want.pop(&s)
	m := meter.New()
	h, is := p.heap.Pop(m)
	counted(t, "Pop", m, s)
	again, isAgain := p.heap.Pop(nil)
	if is != (p.want != nil) || isAgain != is {
		t.Fatalf("Pop() of %s: %v, without a meter %v", p.want.show(), is, isAgain)
	}
	holds(t, "Pop without a meter", again, want)
	return pair{h, want}
}

// holds fails, unless all that a heap tells is that it is just this one, and asking for it takes no step.
func holds(t *testing.T, what string, h rooted.Heap, want *model) {
	t.Helper()
	var root api.Elem
	if want != nil {
		root = want.root
	}
	m := meter.New()
	least, is := h.Min(m)
	if again, isAgain := h.Min(nil); least != root || again != root || is != (want != nil) || isAgain != is {
		t.Fatalf("%s: Min() = %v, %v, without a meter %v, %v, want %v, %v", what, least, is, again, isAgain, root, want != nil)
	}
	if got := h.Size(); got != len(want.all()) {
		t.Fatalf("%s: Size() = %d, want %d", what, got, len(want.all()))
	}
	if got := h.Show(); got != want.show() {
		t.Fatalf("%s: Show() = %s, want %s", what, got, want.show())
	}
	counted(t, what+", Min, Size and Show", m, steps{})
}

// emptied fails, unless Pop after Pop tells all elements of a heap, in order, and then that there is none.
func emptied(t *testing.T, what string, p pair) {
	t.Helper()
	h := p
	for i, want := range p.want.inOrder() {
		if got, is := h.heap.Min(nil); got != want || !is {
			t.Fatalf("%s: %d popped of %s: Min() = %v, %v, want %v", what, i, p.want.show(), got, is, want)
		}
		h = h.pop(t)
	}
	if h.heap.Size() != 0 || h.heap.Show() != "." {
		t.Fatalf("%s: all popped: Size() = %d, Show() = %s", what, h.heap.Size(), h.heap.Show())
	}
	holds(t, what+", from which all was popped", p.heap, p.want)
}

// shows fails, unless a heap is as the document tells it, and its text is this one, written out.
func shows(t *testing.T, p pair, want string) {
	t.Helper()
	if got := p.heap.Show(); got != want {
		t.Errorf("Show() = %s, want %s", got, want)
	}
	holds(t, want, p.heap, p.want)
}

// el is the element p:0.
func el(p int64) api.Elem { return api.Elem{P: p} }

// els are the elements p:0.
func els(ps ...int64) []api.Elem {
	var l []api.Elem
	for _, p := range ps {
		l = append(l, el(p))
	}
	return l
}

// some are so many elements, in an order of their own.
func some(n int) []api.Elem {
	var l []api.Elem
	for i := range int64(n) {
		l = append(l, api.Elem{P: i * 37 % 23, Id: i % 3})
	}
	return l
}

// P10.1, P10.2: Of 2:0, 1:0, 3:0: 7 steps.
func TestExample(t *testing.T) {
	m := meter.New()
	h := rooted.Of(m, el(2), el(1), el(3))
	if got := h.Show(); got != "1:0 (3:0) (2:0)" {
		t.Errorf("Show() = %s", got)
	}
	if got := m.Steps(); got != 7 {
		t.Errorf("Steps() = %d", got)
	}
	counted(t, "Of", m, steps{2, 5})
	if x, is := h.Min(m); x != el(1) || !is || h.Size() != 3 {
		t.Errorf("Min() = %v, %v, Size() = %d", x, is, h.Size())
	}
	counted(t, "and Min", m, steps{2, 5})
	p := of(t, els(2, 1, 3)...)
	shows(t, p, "1:0 (3:0) (2:0)")
	emptied(t, "the example", p)
}

// P10.1, P10.2: of no elements is the empty heap, whoever makes it; it tells nothing, and takes no step.
func TestEmpty(t *testing.T) {
	var zero rooted.Heap
	empty := []pair{{}, {zero, nil}, of(t), of(t, []api.Elem{}...), of(t, el(4)).pop(t), pair{}.pop(t), pair{}.meld(t, pair{}), of(t, els(2, 1, 3)...).pop(t).pop(t).pop(t)}
	for _, p := range empty {
		shows(t, p, ".")
		m := meter.New()
		if x, is := p.heap.Min(m); x != (api.Elem{}) || is {
			t.Errorf("Min() of none = %v, %v", x, is)
		}
		if h, is := p.heap.Pop(m); is || h.Size() != 0 || h.Show() != "." {
			t.Errorf("Pop() of none = %s, %v", h.Show(), is)
		}
		if p.heap.Size() != 0 {
			t.Errorf("Size() of none = %d", p.heap.Size())
		}
		if h := p.heap.Meld(m, zero); h.Size() != 0 || h.Show() != "." {
			t.Errorf("Meld of none and none = %s", h.Show())
		}
		if h := rooted.Of(m); h.Size() != 0 || h.Show() != "." {
			t.Errorf("Of none = %s", h.Show())
		}
		counted(t, "Of, Min, Pop, Size and Meld of none", m, steps{})
		shows(t, p.insert(t, el(7)), "7:0 .")
		shows(t, p.pop(t), ".")
		emptied(t, "none", p)
	}
}

// P10.1, P10.3: the one that stands ahead is the root, and the other one is put into the others; of equal ones it is all one.
func TestInsert(t *testing.T) {
	rows := []struct {
		what, was, want string
		l               []int64
		x               int64
		s               steps
	}{
		{"into the empty heap", ".", "3:0 .", nil, 3, steps{0, 1}},
		{"into a root alone, ahead", "3:0 .", "1:0 (3:0)", []int64{3}, 1, steps{1, 2}},
		{"into a root alone, behind", "3:0 .", "3:0 (4:0)", []int64{3}, 4, steps{1, 2}},
		{"into a root alone, equal", "3:0 .", "3:0 (3:0)", []int64{3}, 3, steps{1, 2}},
		{"into two, ahead", "1:0 (3:0)", "0:0 (1:0) (3:0)", []int64{3, 1}, 0, steps{1, 2}},
		{"into two, between", "1:0 (3:0)", "1:0 (2:0) (3:0)", []int64{3, 1}, 2, steps{1, 2}},
		{"into two, behind", "1:0 (3:0)", "1:0 (9:0) (3:0)", []int64{3, 1}, 9, steps{1, 2}},
		{"into two, equal", "1:0 (3:0)", "1:0 (1:0) (3:0)", []int64{3, 1}, 1, steps{1, 2}},
		{"by a skew link, ahead", "1:0 (3:0) (2:0)", "0:0 (1:0 +2:0 (3:0))", []int64{2, 1, 3}, 0, steps{3, 3}},
		{"by a skew link, equal", "1:0 (3:0) (2:0)", "1:0 (1:0 +2:0 (3:0))", []int64{2, 1, 3}, 1, steps{3, 3}},
		{"by a skew link, between", "1:0 (4:0) (2:0)", "1:0 (2:0 +3:0 (4:0))", []int64{2, 1, 4}, 3, steps{3, 3}},
		{"by a skew link, behind", "1:0 (3:0) (2:0)", "1:0 (2:0 +9:0 (3:0))", []int64{2, 1, 3}, 9, steps{3, 3}},
		{"as a leaf, ahead", "1:0 (2:0 +4:0 (3:0))", "0:0 (1:0) (2:0 +4:0 (3:0))", []int64{2, 1, 3, 4}, 0, steps{1, 2}},
		{"as a leaf, behind", "1:0 (2:0 +4:0 (3:0))", "1:0 (2:0) (2:0 +4:0 (3:0))", []int64{2, 1, 3, 4}, 2, steps{1, 2}},
		{"by a skew link of greater trees, ahead", "1:0 (5:0 +7:0 (6:0)) (2:0 +4:0 (3:0))", "0:0 (1:0 +2:0 +4:0 (5:0 +7:0 (6:0)) (3:0))", []int64{1, 2, 3, 4, 5, 6, 7}, 0, steps{3, 3}},
		{"by a skew link of greater trees, behind", "1:0 (5:0 +7:0 (6:0)) (2:0 +4:0 (3:0))", "1:0 (2:0 +8:0 +4:0 (5:0 +7:0 (6:0)) (3:0))", []int64{1, 2, 3, 4, 5, 6, 7}, 8, steps{3, 3}},
	}
	for _, r := range rows {
		p := of(t, els(r.l...)...)
		shows(t, p, r.was)
		m := meter.New()
		p.heap.Insert(m, el(r.x))
		counted(t, "Insert "+r.what, m, r.s)
		q := p.insert(t, el(r.x))
		shows(t, q, r.want)
		emptied(t, "Insert "+r.what, q)
		holds(t, "Insert "+r.what, p.heap, p.want)
	}
	// The Id tells, where the P doesn't.
	p := of(t, api.Elem{P: 1, Id: 5})
	shows(t, p.insert(t, api.Elem{P: 1, Id: 4}), "1:4 (1:5)")
	shows(t, p.insert(t, api.Elem{P: 1, Id: 6}), "1:5 (1:6)")
}

// P10.1: Of is one Insert after the other, in order, into the empty heap.
func TestOf(t *testing.T) {
	rows := []struct {
		want string
		l    []int64
	}{
		{".", nil},
		{"5:0 .", []int64{5}},
		{"1:0 (2:0)", []int64{1, 2}},
		{"1:0 (2:0)", []int64{2, 1}},
		{"1:0 (3:0) (2:0)", []int64{1, 2, 3}},
		{"1:0 (2:0) (3:0)", []int64{1, 3, 2}},
		{"1:0 (2:0) (3:0)", []int64{3, 2, 1}},
		{"1:0 (2:0 +4:0 (3:0))", []int64{1, 2, 3, 4}},
		{"1:0 (2:0 +3:0 (4:0))", []int64{4, 3, 2, 1}},
		{"1:0 (5:0) (2:0 +4:0 (3:0))", []int64{1, 2, 3, 4, 5}},
		{"1:0 (6:0) (5:0) (2:0 +4:0 (3:0))", []int64{1, 2, 3, 4, 5, 6}},
		{"1:0 (5:0 +7:0 (6:0)) (2:0 +4:0 (3:0))", []int64{1, 2, 3, 4, 5, 6, 7}},
		{"1:0 (2:0 +8:0 +4:0 (5:0 +7:0 (6:0)) (3:0))", []int64{1, 2, 3, 4, 5, 6, 7, 8}},
		{"1:0 (2:0 +3:0 +4:0 (6:0 +7:0 (8:0)) (5:0))", []int64{8, 7, 6, 5, 4, 3, 2, 1}},
	}
	for _, r := range rows {
		p := of(t, els(r.l...)...)
		shows(t, p, r.want)
		emptied(t, "Of", p)
		var one pair
		for _, x := range r.l {
			one = one.insert(t, el(x))
		}
		shows(t, one, r.want)
	}
}

// skewsPut is how many of so many things are put into a heap of layer 9 by a skew link.
func skewsPut(n int) int {
	skews := 0
	var ranks []int
	for range n {
		if len(ranks) > 1 && ranks[0] == ranks[1] {
			ranks = slices.Concat([]int{ranks[0] + 1}, ranks[2:])
			skews++
		} else {
			ranks = slices.Concat([]int{0}, ranks)
		}
	}
	return skews
}

// P10.1: whatever the elements, each one but the first one is told apart from a root, each one makes a heap, and all but one are put into the others.
func TestOfSteps(t *testing.T) {
	for n := range 200 {
		others := max(n-1, 0)
		skews := skewsPut(others)
		for _, l := range [][]api.Elem{some(n), slices.Repeat(els(4), n)} {
			m := meter.New()
			h := rooted.Of(m, l...)
			counted(t, "Of", m, steps{others + 2*skews, n + others + skews})
			if h.Size() != n {
				t.Errorf("Size() = %d, want %d", h.Size(), n)
			}
		}
	}
}

// P10.1, P10.2: the others are just what layer 9 makes of them, when they are put in.
func TestOthers(t *testing.T) {
	for n := range 60 {
		l := some(n)
		least := api.Elem{P: -1}
		h := rooted.Of(nil, least)
		for _, x := range l {
			h = h.Insert(nil, x)
		}
		others := skew.Of(nil, l...)
		if got, want := h.Show(), "-1:0 "+others.Show(); got != want {
			t.Fatalf("Show() = %s, want %s", got, want)
		}
		if h.Size() != others.Size()+1 {
			t.Fatalf("Size() = %d, want %d", h.Size(), others.Size()+1)
		}
		if n == 0 {
			continue
		}
		m, own := meter.New(), meter.New()
		popped, is := h.Pop(m)
		root, _ := others.Min(own)
		rest, _ := others.Pop(own)
		if got, want := popped.Show(), text(root)+" "+rest.Show(); got != want || !is {
			t.Fatalf("Pop() = %s, %v, want %s", got, is, want)
		}
		if m.Steps() != own.Steps()+1 {
			t.Fatalf("Pop() of %s: %d steps, want %d", h.Show(), m.Steps(), own.Steps()+1)
		}
	}
}

// P10.1: what is handed to Of isn't changed, and isn't kept.
func TestOfKeepsNothing(t *testing.T) {
	l := els(4, 2, 2, 9, -1)
	given := slices.Clone(l)
	h := rooted.Of(nil, l...)
	if !slices.Equal(l, given) {
		t.Errorf("Of changed its list: %v", l)
	}
	clear(l)
	p := pair{h, modelOf(new(steps), given...)}
	holds(t, "behind a change of the list", h, p.want)
	emptied(t, "behind a change of the list", p)
}

// P10.1: Meld where one has no elements is the other one, just as it is, and where both have none is none: no steps.
func TestMeldOfEmpty(t *testing.T) {
	for _, l := range [][]api.Elem{nil, els(5), els(5, 6), els(2, 1, 3), els(3, 3, 3, 3), els(1, 2, 3, 4, 5, 6, 7), some(13)} {
		p := of(t, l...)
		for _, none := range []pair{{}, of(t), of(t, el(0)).pop(t)} {
			m := meter.New()
			ahead, behind := p.heap.Meld(m, none.heap), none.heap.Meld(m, p.heap)
			counted(t, "Meld where one is empty", m, steps{})
			holds(t, "Meld, the second one empty", ahead, p.want)
			holds(t, "Meld, the first one empty", behind, p.want)
			holds(t, "Meld of empty, without a meter", p.heap.Meld(nil, none.heap), p.want)
			holds(t, "Meld of empty and a heap, without a meter", none.heap.Meld(nil, p.heap), p.want)
			shows(t, none, ".")
			emptied(t, "Meld of empty", pair{ahead, p.want})
		}
	}
	// The others are not levelled either.
	p := of(t, els(2, 1, 3)...)
	shows(t, p.meld(t, pair{}), "1:0 (3:0) (2:0)")
	shows(t, pair{}.meld(t, p), "1:0 (3:0) (2:0)")
}

// P10.1: the winner's root; the first one's others melded with the second one's, whichever has that root, and the loser's root put in behind that.
func TestMeld(t *testing.T) {
	rows := []struct {
		what, was, of, want string
		h, o                []int64
		s                   steps
	}{
		{"roots alone, the first one ahead", "1:0 .", "2:0 .", "1:0 (2:0)", []int64{1}, []int64{2}, steps{1, 2}},
		{"roots alone, the second one ahead", "2:0 .", "1:0 .", "1:0 (2:0)", []int64{2}, []int64{1}, steps{1, 2}},
		{"roots alone, equal", "1:0 .", "1:0 .", "1:0 (1:0)", []int64{1}, []int64{1}, steps{1, 2}},
		{"the second one a root alone, ahead", "2:0 (3:0)", "1:0 .", "1:0 (2:0) (3:0)", []int64{2, 3}, []int64{1}, steps{1, 2}},
		{"the second one a root alone, behind", "2:0 (3:0)", "9:0 .", "2:0 (9:0) (3:0)", []int64{2, 3}, []int64{9}, steps{1, 2}},
		{"the first one a root alone, ahead", "1:0 .", "2:0 (3:0)", "1:0 (2:0) (3:0)", []int64{1}, []int64{2, 3}, steps{1, 2}},
		{"the first one a root alone, behind", "9:0 .", "2:0 (3:0)", "2:0 (9:0) (3:0)", []int64{9}, []int64{2, 3}, steps{1, 2}},
		{"a root alone, equal", "2:0 .", "2:0 (3:0)", "2:0 (2:0) (3:0)", []int64{2}, []int64{2, 3}, steps{1, 2}},
		{"a root alone, and others that are levelled", "1:0 (3:0) (2:0)", "9:0 .", "1:0 (9:0) (2:0 (3:0))", []int64{2, 1, 3}, []int64{9}, steps{2, 3}},
		{"a root alone, ahead of others that are levelled", "0:0 .", "1:0 (3:0) (2:0)", "0:0 (1:0) (2:0 (3:0))", []int64{0}, []int64{2, 1, 3}, steps{2, 3}},
		{"a leaf each, the first one ahead", "1:0 (3:0)", "2:0 (4:0)", "1:0 (2:0) (3:0 (4:0))", []int64{1, 3}, []int64{2, 4}, steps{2, 3}},
		{"a leaf each, the second one ahead", "2:0 (4:0)", "1:0 (3:0)", "1:0 (2:0) (3:0 (4:0))", []int64{2, 4}, []int64{1, 3}, steps{2, 3}},
		{"a leaf each, equal roots", "1:0 (3:0)", "1:0 (4:0)", "1:0 (1:0) (3:0 (4:0))", []int64{1, 3}, []int64{1, 4}, steps{2, 3}},
		{"equal others: the first one's wins, the first one ahead", "0:0 (5:0 +8:0 (6:0))", "1:0 (5:0 +9:0 (7:0))", "0:0 (1:0) (5:0 +8:0 (5:0 +9:0 (7:0)) (6:0))", []int64{0, 6, 5, 8}, []int64{1, 7, 5, 9}, steps{2, 3}},
		{"equal others: the first one's wins, the second one ahead", "1:0 (5:0 +8:0 (6:0))", "0:0 (5:0 +9:0 (7:0))", "0:0 (1:0) (5:0 +8:0 (5:0 +9:0 (7:0)) (6:0))", []int64{1, 6, 5, 8}, []int64{0, 7, 5, 9}, steps{2, 3}},
		{"equal others: the first one's wins, equal roots", "1:0 (5:0 +8:0 (6:0))", "1:0 (5:0 +9:0 (7:0))", "1:0 (1:0) (5:0 +8:0 (5:0 +9:0 (7:0)) (6:0))", []int64{1, 6, 5, 8}, []int64{1, 7, 5, 9}, steps{2, 3}},
		{"others of unlike ranks", "1:0 (2:0)", "3:0 (4:0 +6:0 (5:0))", "1:0 (3:0) (2:0) (4:0 +6:0 (5:0))", []int64{1, 2}, []int64{3, 4, 5, 6}, steps{1, 2}},
		{"others of unlike ranks, the other way round", "3:0 (4:0 +6:0 (5:0))", "1:0 (2:0)", "1:0 (3:0) (2:0) (4:0 +6:0 (5:0))", []int64{3, 4, 5, 6}, []int64{1, 2}, steps{1, 2}},
		{"others that are levelled, both", "1:0 (3:0) (2:0)", "4:0 (6:0) (5:0)", "1:0 (4:0) (2:0 (5:0 (6:0)) (3:0))", []int64{1, 2, 3}, []int64{4, 5, 6}, steps{4, 5}},
		{"others that are levelled, both, the second one ahead", "4:0 (6:0) (5:0)", "1:0 (3:0) (2:0)", "1:0 (4:0) (2:0 (5:0 (6:0)) (3:0))", []int64{4, 5, 6}, []int64{1, 2, 3}, steps{4, 5}},
		{"two greater trees that are levelled", "1:0 (5:0 +7:0 (6:0)) (2:0 +4:0 (3:0))", "8:0 .", "1:0 (8:0) (2:0 +4:0 (5:0 +7:0 (6:0)) (3:0))", []int64{1, 2, 3, 4, 5, 6, 7}, []int64{8}, steps{2, 3}},
	}
	for _, r := range rows {
		h, o := of(t, els(r.h...)...), of(t, els(r.o...)...)
		shows(t, h, r.was)
		shows(t, o, r.of)
		m := meter.New()
		h.heap.Meld(m, o.heap)
		counted(t, r.what, m, r.s)
		p := h.meld(t, o)
		if got := p.heap.Show(); got != r.want {
			t.Errorf("%s: Show() = %s, want %s", r.what, got, r.want)
		}
		holds(t, r.what, p.heap, p.want)
		emptied(t, r.what, p)
		holds(t, r.what, h.heap, h.want)
		holds(t, r.what, o.heap, o.want)
	}
	// The Id tells, where the P doesn't.
	a, b := of(t, api.Elem{P: 1, Id: -1}), of(t, api.Elem{P: 1, Id: -2})
	shows(t, a.meld(t, b), "1:-2 (1:-1)")
	shows(t, b.meld(t, a), "1:-2 (1:-1)")
}

// P10.2: the least one of the others as the root, and the others without it.
func TestPop(t *testing.T) {
	rows := []struct {
		what, was, want string
		l               []int64
		s               steps
	}{
		{"a root alone", "4:0 .", ".", []int64{4}, steps{}},
		{"two elements", "1:0 (2:0)", "2:0 .", []int64{1, 2}, steps{0, 1}},
		{"two equal ones", "1:0 (1:0)", "1:0 .", []int64{1, 1}, steps{0, 1}},
		{"two leaves, the first one", "1:0 (2:0) (3:0)", "2:0 (3:0)", []int64{1, 3, 2}, steps{2, 1}},
		{"two leaves, the last one", "1:0 (3:0) (2:0)", "2:0 (3:0)", []int64{1, 2, 3}, steps{2, 1}},
		{"two leaves, equal", "1:0 (2:0) (2:0)", "2:0 (2:0)", []int64{1, 2, 2}, steps{2, 1}},
		{"one tree, one beside", "1:0 (2:0 +4:0 (3:0))", "2:0 (4:0) (3:0)", []int64{1, 2, 3, 4}, steps{0, 2}},
		{"the first of two trees", "1:0 (2:0) (3:0 +5:0 (4:0))", "2:0 (3:0 +5:0 (4:0))", []int64{1, 3, 4, 5, 2}, steps{2, 1}},
		{"the last of two trees", "1:0 (5:0) (2:0 +4:0 (3:0))", "2:0 (4:0) (3:0 (5:0))", []int64{1, 2, 3, 4, 5}, steps{3, 3}},
		{"the last one of three, the others are levelled", "1:0 (6:0) (5:0) (2:0 +4:0 (3:0))", "2:0 (4:0) (3:0) (5:0 (6:0))", []int64{1, 2, 3, 4, 5, 6}, steps{5, 3}},
		{"the one in the middle", "1:0 (6:0) (2:0) (3:0 +4:0 (3:0))", "2:0 (6:0) (3:0 +4:0 (3:0))", []int64{1, 3, 3, 4, 2, 6}, steps{4, 1}},
		{"two greater trees", "1:0 (5:0 +7:0 (6:0)) (2:0 +4:0 (3:0))", "2:0 (4:0) (3:0) (5:0 +7:0 (6:0))", []int64{1, 2, 3, 4, 5, 6, 7}, steps{2, 2}},
		{"several beside", "1:0 (2:0 +8:0 +4:0 (5:0 +7:0 (6:0)) (3:0))", "2:0 (3:0 +4:0 (8:0)) (5:0 +7:0 (6:0))", []int64{1, 2, 3, 4, 5, 6, 7, 8}, steps{2, 4}},
	}
	for _, r := range rows {
		p := of(t, els(r.l...)...)
		shows(t, p, r.was)
		m := meter.New()
		if _, is := p.heap.Pop(m); !is {
			t.Errorf("%s: Pop() of %s: false", r.what, p.heap.Show())
		}
		counted(t, "Pop, "+r.what, m, r.s)
		q := p.pop(t)
		shows(t, q, r.want)
		if q.heap.Size() != len(r.l)-1 {
			t.Errorf("Pop() of %s: Size() = %d", p.heap.Show(), q.heap.Size())
		}
		emptied(t, "Pop", p)
	}
}

// P10.2, P10.3: Min is the root, by no step, and takes nothing out.
func TestMin(t *testing.T) {
	p := of(t, els(8, 3, 5, 3, 9, 4, 2)...)
	shows(t, p, "2:0 (3:0 +4:0 (9:0)) (3:0 +5:0 (8:0))")
	m := meter.New()
	for range 5 {
		if x, is := p.heap.Min(m); x != el(2) || !is {
			t.Errorf("Min() = %v, %v", x, is)
		}
	}
	counted(t, "Min", m, steps{})
	holds(t, "asked for its least element", p.heap, p.want)
	// Wherever it was put in, it is told.
	for n := range 12 {
		for i := range n {
			l := slices.Repeat(els(4), n)
			l[i] = el(3)
			h := rooted.Of(nil, l...)
			if x, is := h.Min(nil); x != el(3) || !is {
				t.Errorf("Min() = %v, %v", x, is)
			}
			if h, _ = h.Pop(nil); h.Size() != n-1 {
				t.Errorf("Size() = %d", h.Size())
			}
		}
	}
	// A zero element that is there is told as one; and one that isn't, isn't.
	if x, is := rooted.Of(nil, api.Elem{}, el(1)).Min(m); x != (api.Elem{}) || !is {
		t.Errorf("Min() = %v, %v", x, is)
	}
	if x, is := rooted.Of(nil, el(1), el(2), el(3)).Min(nil); x != el(1) || !is {
		t.Errorf("Min() = %v, %v", x, is)
	}
}

// edges are elements at both ends of what 64 bits hold.
func edges() []api.Elem {
	var l []api.Elem
	for _, p := range []int64{math.MinInt64, math.MinInt64 + 1, -1, 0, 1, math.MaxInt64 - 1, math.MaxInt64} {
		for _, id := range []int64{math.MinInt64, -1, 0, math.MaxInt64} {
			l = append(l, api.Elem{P: p, Id: id})
		}
	}
	return l
}

// P10.1, P10.2, P10.3: elements at both ends of 64 bits are elements as others are.
func TestEdges(t *testing.T) {
	low, high := api.Elem{P: math.MinInt64, Id: math.MaxInt64}, api.Elem{P: math.MaxInt64, Id: math.MinInt64}
	lowText, highText := "-9223372036854775808:9223372036854775807", "9223372036854775807:-9223372036854775808"
	want := lowText + " (" + highText + ")"
	shows(t, of(t, low, high), want)
	shows(t, of(t, high, low), want)
	shows(t, of(t, high).meld(t, of(t, low)), want)
	shows(t, of(t, low).meld(t, of(t, high)), want)
	shows(t, of(t, low, high).pop(t), highText+" .")
	shows(t, of(t, high, low, low), lowText+" ("+lowText+") ("+highText+")")
	l := edges()
	for first := range l {
		var mixed []api.Elem
		for i := range l {
			mixed = append(mixed, l[(first+i*11)%len(l)])
		}
		p := of(t, mixed...)
		holds(t, "Of the edges", p.heap, p.want)
		emptied(t, "the edges", p)
		half := of(t, mixed[:14]...).meld(t, of(t, mixed[14:]...))
		holds(t, "Meld of the edges", half.heap, half.want)
		emptied(t, "the edges, melded", half)
		if !slices.Equal(half.want.inOrder(), l) {
			t.Fatalf("elements went astray: %s", half.heap.Show())
		}
	}
}

// P10.3: equal elements are there as often as they were put in.
func TestEqualElements(t *testing.T) {
	for n := range 40 {
		same := of(t, slices.Repeat(els(5), n)...)
		holds(t, "equal elements", same.heap, same.want)
		if same.heap.Size() != n {
			t.Errorf("Size() = %d, want %d", same.heap.Size(), n)
		}
		for _, p := range []pair{same, same.insert(t, el(5)), same.insert(t, el(4)), same.insert(t, el(6)), same.meld(t, same), same.meld(t, of(t, els(5, 4, 6, 5)...))} {
			holds(t, "and others", p.heap, p.want)
			emptied(t, "and others", p)
		}
	}
}

// P10.1, P10.3: a heap melded with itself has each element twice, and is there as it was.
func TestMeldWithItself(t *testing.T) {
	p := of(t, els(2, 1, 3)...)
	twice := p.meld(t, p)
	shows(t, p, "1:0 (3:0) (2:0)")
	shows(t, twice, "1:0 (1:0) (2:0 (2:0 (3:0)) (3:0))")
	if !slices.Equal(twice.want.inOrder(), els(1, 1, 2, 2, 3, 3)) {
		t.Errorf("twice: %s", twice.heap.Show())
	}
	emptied(t, "twice", twice)
	one := of(t, el(4))
	shows(t, one.meld(t, one), "4:0 (4:0)")
	shows(t, one, "4:0 .")
	two := of(t, els(4, 6)...)
	shows(t, two.meld(t, two), "4:0 (4:0) (6:0 (6:0))")
	shows(t, two, "4:0 (6:0)")
	m := meter.New()
	p.heap.Meld(m, p.heap)
	counted(t, "Meld with itself, others levelled twice", m, steps{4, 5})
	// Trees of a heap that it shares with one that came of it are melded as those of any other.
	most := p.pop(t)
	for _, q := range []pair{p.meld(t, most), most.meld(t, p), twice.meld(t, p), p.insert(t, el(0)).meld(t, p)} {
		holds(t, "melded with what came of it", q.heap, q.want)
		emptied(t, "melded with what came of it", q)
	}
	shows(t, p, "1:0 (3:0) (2:0)")
}

// P10.1, P10.2, P10.3: every way to put in up to 6 elements, and to take them out again.
func TestAllSmall(t *testing.T) {
	for n := range 7 {
		for code := range 1 << (2 * n) {
			var l []api.Elem
			for i := range n {
				l = append(l, el(int64(code>>(2*i)&3)))
			}
			p := of(t, l...)
			holds(t, "Of a few", p.heap, p.want)
			if n == 6 && code%17 != 0 {
				continue
			}
			emptied(t, "a few", p)
			for i := range n + 1 {
				q := of(t, l[:i]...).meld(t, of(t, l[i:]...))
				holds(t, "Meld of a few", q.heap, q.want)
			}
		}
	}
}

// P10.1, P10.2, P10.3: a heap of each size melded with one of each size, and popped.
func TestAllSizes(t *testing.T) {
	var heaps []pair
	for n := range 24 {
		heaps = append(heaps, of(t, some(n)...))
	}
	for _, h := range heaps {
		for _, o := range heaps {
			p := h.meld(t, o)
			holds(t, "melded", p.heap, p.want)
			q := p.pop(t).insert(t, el(5)).pop(t)
			holds(t, "melded, popped, put in and popped", q.heap, q.want)
		}
		emptied(t, "melded with others", h)
	}
}

// versions makes heaps of heaps, and fails unless each is what it has to be, when it is made and at the end.
func versions(t *testing.T, rounds int, x func(n int) api.Elem) {
	t.Helper()
	all := []pair{{}, of(t, x(0)), of(t, x(1), x(2)), of(t, x(1), x(2), x(3))}
	for n := range rounds {
		a, b := all[n*7919%len(all)], all[n*104729%len(all)]
		made := []pair{a.insert(t, x(n)), a.insert(t, x(n+3)).insert(t, x(n)), a.meld(t, b), b.meld(t, a), a.meld(t, a), a.pop(t), b.pop(t), b.insert(t, x(n+1)), of(t, x(n), x(n+2), x(n+5))}
		for _, p := range made {
			holds(t, "just made", p.heap, p.want)
			// Heaps that are melded with themselves would double without end.
			if p.heap.Size() <= 60 {
				all = append(all, p)
			}
		}
		holds(t, "what it came of", a.heap, a.want)
		holds(t, "the other one", b.heap, b.want)
	}
	for i, p := range all {
		if i%7 == 0 {
			emptied(t, "at the end", p)
		}
	}
	for _, p := range all {
		holds(t, "at the end", p.heap, p.want)
	}
}

// P10.3: whatever is done with heaps from which others were made, each stays as it is, and all that is in it can be taken out.
func TestVersionsStay(t *testing.T) {
	elements := []func(n int) api.Elem{
		func(n int) api.Elem { return api.Elem{P: int64(n*31%11) - 5, Id: int64(n % 3)} },
		func(n int) api.Elem { return el(int64(n * 17 % 4)) },
		func(n int) api.Elem { return el(int64(-n)) },
		func(n int) api.Elem { return api.Elem{P: int64(n), Id: int64(-n)} },
		func(n int) api.Elem { return edges()[n*13%28] },
	}
	for _, x := range elements {
		versions(t, 120, x)
	}
}

// P10.1, P10.2: one meter counts all calls together, and Min, Size and Show take no step.
func TestStepsTogether(t *testing.T) {
	m := meter.New()
	a := rooted.Of(m, els(2, 1, 3)...)
	counted(t, "Of", m, steps{2, 5})
	b := a.Insert(m, el(0))
	counted(t, "and Insert by a skew link", m, steps{5, 8})
	c := b.Insert(m, el(5))
	counted(t, "and Insert of a leaf", m, steps{6, 10})
	if got := c.Show(); got != "0:0 (5:0) (1:0 +2:0 (3:0))" {
		t.Errorf("Show() = %s", got)
	}
	d := c.Meld(m, rooted.Of(nil, els(6, 7)...))
	// A comparison of the roots; the leaves are linked, and then with the tree; the loser's root is a leaf, and a heap is made.
	counted(t, "and Meld", m, steps{9, 14})
	if got := d.Show(); got != "0:0 (6:0) (1:0 +2:0 (5:0 (7:0)) (3:0))" {
		t.Errorf("Show() = %s", got)
	}
	e, _ := d.Pop(m)
	// Min and Pop of two trees; the kids meld with the leaf by a link, which carries on; what stood beside is a leaf, and a heap is made.
	counted(t, "and Pop", m, steps{13, 18})
	if got := e.Show(); got != "1:0 (2:0) (3:0 (5:0 (7:0)) (6:0))" {
		t.Errorf("Show() = %s", got)
	}
	for _, h := range []rooted.Heap{{}, a, b, c, d, e} {
		h.Min(m)
		h.Size()
		if h.Show() == "" {
			t.Error("Show() is empty")
		}
	}
	counted(t, "and asks", m, steps{13, 18})
	if got := m.Steps(); got != 31 {
		t.Errorf("Steps() = %d", got)
	}
}

// P10.1, P10.2, P10.3: many elements, in an order of their own, come out in order, by as many steps as the model's.
func TestMany(t *testing.T) {
	const n = 1 << 12
	var l []api.Elem
	for i := range int64(n) {
		l = append(l, api.Elem{P: i * 2741 % 4099 % 511, Id: i % 5})
	}
	p := of(t, l...)
	holds(t, "many", p.heap, p.want)
	half := of(t, l[:n/2]...).meld(t, of(t, l[n/2:]...))
	holds(t, "many, melded", half.heap, half.want)
	slices.SortFunc(l, order)
	for _, q := range []pair{p, half} {
		var s steps
		m := meter.New()
		h, want := q.heap, q.want
		for i, x := range l {
			if got, is := h.Min(m); got != x || !is || h.Size() != n-i {
				t.Fatalf("%d popped: Min() = %v, %v, want %v; Size() = %d", i, got, is, x, h.Size())
			}
			h, _ = h.Pop(m)
			want = want.pop(&s)
		}
		counted(t, "Min and Pop of many", m, s)
		if h.Size() != 0 || want != nil {
			t.Errorf("all popped: Size() = %d", h.Size())
		}
		holds(t, "many, and popped", q.heap, q.want)
	}
}

// P10.1, P10.2, P10.3: of 2^31 elements too, which are one heap melded with itself again and again, all is told.
func TestTwiceAndTwice(t *testing.T) {
	for _, l := range [][]api.Elem{els(2, 1, 3), els(2, 1), els(9, 1, 8, 2, 7)} {
		h, want := rooted.Of(nil, l...), modelOf(new(steps), l...)
		var s steps
		m := meter.New()
		size := len(l)
		for size <= 1<<30 {
			h, want = h.Meld(m, h), want.meld(&s, want)
			size *= 2
			if x, is := h.Min(m); x != el(1) || !is || h.Size() != size {
				t.Fatalf("Min() = %v, %v, Size() = %d, want %d", x, is, h.Size(), size)
			}
		}
		counted(t, "Meld with itself", m, s)
		for i := range 5000 {
			h, _ = h.Pop(m)
			want = want.pop(&s)
			if x, is := h.Min(m); x != want.root || !is || h.Size() != size-1-i {
				t.Fatalf("Min() = %v, %v, Size() = %d", x, is, h.Size())
			}
		}
		h = h.Insert(m, el(0)).Insert(m, el(9)).Insert(m, el(4))
		want = want.insert(&s, el(0)).insert(&s, el(9)).insert(&s, el(4))
		counted(t, "and Pop and Insert", m, s)
		if x, is := h.Min(nil); x != el(0) || !is || h.Size() != size-4997 {
			t.Errorf("Min() = %v, %v, Size() = %d", x, is, h.Size())
		}
		if trees := len(want.others); trees > bits.Len(uint(size))+1 {
			t.Errorf("%d trees of %d elements", trees, size)
		}
	}
}
