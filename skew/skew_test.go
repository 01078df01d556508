package skew_test

import (
	"math"
	"math/bits"
	"slices"
	"strconv"
	"strings"
	"testing"

	"slagheap/api"
	"slagheap/meter"
	"slagheap/rank"
	"slagheap/skew"
)

// thing is what the tests put into heaps.
type thing interface {
	comparable
	rank.Keyed
}

// named is a thing of which several may have one Key, and be told apart all the same.
type named struct {
	p    int64
	name string
}

func (n named) Key() api.Elem { return api.Elem{P: n.p} }

// down is a thing that is in order the other way round.
type down int16

func (d down) Key() api.Elem { return api.Elem{P: -int64(d), Id: 7} }

// box is a thing by a pointer, which fails of nil.
type box struct{ e api.Elem }

func (b *box) Key() api.Elem { return b.e }

// failing is a thing that tells no Key.
type failing struct{ n int }

func (f failing) Key() api.Elem { panic(f.n) }

// nest is a thing that has a heap of its kind.
type nest struct {
	e      api.Elem
	others skew.Heap[nest]
}

func (n nest) Key() api.Elem { return n.e }

// model is a heap as the document tells it, written without the package's own calls: its trees, in order.
type model[T thing] []*branch[T]

// branch is a tree: its root, what stands beside that, its rank, and its kids, the greatest one first.
type branch[T thing] struct {
	root   T
	beside []T
	rank   int
	kids   []*branch[T]
}

// steps is how many comparisons a model takes, and how many things made.
type steps struct{ compared, made int }

// before is the order of elements, by what the document says of it.
func before(a, b api.Elem) bool { return a.P < b.P || a.P == b.P && a.Id < b.Id }

// less is how two things stand, which takes a comparison.
func less[T thing](s *steps, a, b T) bool {
	s.compared++
	return before(a.Key(), b.Key())
}

// order is how two elements stand, for the library's sorting.
func order(a, b api.Elem) int {
	if before(a, b) {
		return -1
	}
	if before(b, a) {
		return 1
	}
	return 0
}

// text is an element's text.
func text(e api.Elem) string {
	return strconv.FormatInt(e.P, 10) + ":" + strconv.FormatInt(e.Id, 10)
}

func (b *branch[T]) show() string {
	s := "(" + text(b.root.Key())
	for _, x := range b.beside {
		s += " +" + text(x.Key())
	}
	for _, kid := range b.kids {
		s += " " + kid.show()
	}
	return s + ")"
}

func (k model[T]) all() []T {
	var l []T
	for _, b := range k {
		l = append(append(l, b.root), b.beside...)
		l = append(l, model[T](b.kids).all()...)
	}
	return l
}

// inOrder is the Keys of all things of a model, the least one first.
func (k model[T]) inOrder() []api.Elem {
	var l []api.Elem
	for _, x := range k.all() {
		l = append(l, x.Key())
	}
	slices.SortFunc(l, order)
	return l
}

func (k model[T]) show() string {
	if len(k) == 0 {
		return "."
	}
	var l []string
	for _, b := range k {
		l = append(l, b.show())
	}
	return strings.Join(l, " ")
}

// leaf is a tree of a thing alone.
func leaf[T thing](s *steps, x T) *branch[T] {
	s.made++
	return &branch[T]{root: x}
}

// link is one tree of two: the second one is the winner just if its root stands ahead.
func link[T thing](s *steps, a, b *branch[T]) *branch[T] {
	if less(s, b.root, a.root) {
		a, b = b, a
	}
	s.made++
	return &branch[T]{a.root, a.beside, a.rank + 1, slices.Concat([]*branch[T]{b}, a.kids)}
}

// skewed is one tree of two, and a thing.
func skewed[T thing](s *steps, x T, a, b *branch[T]) *branch[T] {
	u := link(s, a, b)
	root := u.root
	if !less(s, root, x) {
		root, x = x, root
	}
	s.made++
	return &branch[T]{root, slices.Concat([]T{x}, u.beside), u.rank, u.kids}
}

// ahead is a tree put ahead of trees.
func ahead[T thing](s *steps, b *branch[T], k model[T]) model[T] {
	if len(k) > 0 && k[0].rank == b.rank {
		return ahead(s, link(s, b, k[0]), k[1:])
	}
	return slices.Concat(model[T]{b}, k)
}

func (k model[T]) insert(s *steps, x T) model[T] {
	if len(k) > 1 && k[0].rank == k[1].rank {
		return slices.Concat(model[T]{skewed(s, x, k[0], k[1])}, k[2:])
	}
	return slices.Concat(model[T]{leaf(s, x)}, k)
}

func (k model[T]) levelled(s *steps) model[T] {
	if len(k) == 0 {
		return nil
	}
	return ahead(s, k[0], k[1:])
}

// melded is trees melded, of rows whose ranks all rise.
func melded[T thing](s *steps, h, o model[T]) model[T] {
	if len(h) == 0 {
		return o
	}
	if len(o) == 0 {
		return h
	}
	f, g := h[0], o[0]
	if f.rank < g.rank {
		return slices.Concat(model[T]{f}, melded(s, h[1:], o))
	}
	if g.rank < f.rank {
		return slices.Concat(model[T]{g}, melded(s, h, o[1:]))
	}
	rest := melded(s, h[1:], o[1:])
	return ahead(s, link(s, f, g), rest)
}

func (k model[T]) meld(s *steps, o model[T]) model[T] {
	first := k.levelled(s)
	return melded(s, first, o.levelled(s))
}

// least is the place of the tree with the least root, the first one of several.
func (k model[T]) least(s *steps) int {
	place := 0
	for i := 1; i < len(k); i++ {
		if less(s, k[i].root, k[place].root) {
			place = i
		}
	}
	return place
}

func (k model[T]) pop(s *steps) model[T] {
	if len(k) == 0 {
		return nil
	}
	i := k.least(s)
	kids := slices.Clone(k[i].kids)
	slices.Reverse(kids)
	out := melded(s, kids, slices.Concat(k[:i], k[i+1:]).levelled(s))
	for _, x := range k[i].beside {
		out = out.insert(s, x)
	}
	return out
}

// modelOf is the things put into the empty heap, in order.
func modelOf[T thing](s *steps, l ...T) model[T] {
	var k model[T]
	for _, x := range l {
		k = k.insert(s, x)
	}
	return k
}

// pair is a heap, and what it has to be for ever.
type pair[T thing] struct {
	heap skew.Heap[T]
	want model[T]
}

// counted fails, unless so many comparisons and things made were counted since the meter was new.
func counted(t *testing.T, what string, m *meter.Meter, want steps) {
	t.Helper()
	if c, n := m.Split(); c != want.compared || n != want.made {
		t.Fatalf("%s: %d comparisons, %d made, want %d, %d", what, c, n, want.compared, want.made)
	}
}

// of is Of by a meter of its own, and without one.
func of[T thing](t *testing.T, l ...T) pair[T] {
	t.Helper()
	var s steps
	m := meter.New()
	p := pair[T]{skew.Of(m, l...), modelOf(&s, l...)}
	counted(t, "Of", m, s)
	holds(t, "Of without a meter", skew.Of(nil, l...), p.want)
	return p
}

// insert is Insert by a meter of its own, and without one; it makes four steps at most.
func (p pair[T]) insert(t *testing.T, x T) pair[T] {
	t.Helper()
	var s steps
	m := meter.New()
	q := pair[T]{p.heap.Insert(m, x), p.want.insert(&s, x)}
	counted(t, "Insert", m, s)
	if m.Steps() < 1 || m.Steps() > 4 {
		t.Fatalf("Insert into %s: %d steps", p.want.show(), m.Steps())
	}
	holds(t, "Insert without a meter", p.heap.Insert(nil, x), q.want)
	return q
}

// meld is Meld by a meter of its own, and without one.
func (p pair[T]) meld(t *testing.T, o pair[T]) pair[T] {
	t.Helper()
	var s steps
	m := meter.New()
	q := pair[T]{p.heap.Meld(m, o.heap), p.want.meld(&s, o.want)}
	counted(t, "Meld", m, s)
	holds(t, "Meld without a meter", p.heap.Meld(nil, o.heap), q.want)
	return q
}

// pop is Pop by a meter of its own, and without one.
func (p pair[T]) pop(t *testing.T) pair[T] {
	t.Helper()
	var s steps
	want := p.want.pop(&s)
	m := meter.New()
	h, is := p.heap.Pop(m)
	counted(t, "Pop", m, s)
	again, isAgain := p.heap.Pop(nil)
	if is != (len(p.want) > 0) || isAgain != is {
		t.Fatalf("Pop() of %s: %v, without a meter %v", p.want.show(), is, isAgain)
	}
	holds(t, "Pop without a meter", again, want)
	return pair[T]{h, want}
}

// holds fails, unless all that a heap tells is that it is just this one, and asking for it takes no step but Min's.
func holds[T thing](t *testing.T, what string, h skew.Heap[T], want model[T]) {
	t.Helper()
	var s steps
	var root T
	if len(want) > 0 {
		root = want[want.least(&s)].root
	}
	m := meter.New()
	least, is := h.Min(m)
	if again, isAgain := h.Min(nil); least != root || again != root || is != (len(want) > 0) || isAgain != is {
		t.Fatalf("%s: Min() = %v, %v, without a meter %v, %v, want %v, %v", what, least, is, again, isAgain, root, len(want) > 0)
	}
	all := want.all()
	if got := h.Size(); got != len(all) {
		t.Fatalf("%s: Size() = %d, want %d", what, got, len(all))
	}
	if got := h.Show(); got != want.show() {
		t.Fatalf("%s: Show() = %s, want %s", what, got, want.show())
	}
	if got := h.All(); !slices.Equal(got, all) {
		t.Fatalf("%s: All() = %v, want %v", what, got, all)
	}
	counted(t, what+", Min, Size, Show and All", m, s)
	formed(t, what, h)
}

// formed fails, unless a heap's trees are of rising ranks, no two of one rank but perhaps the first two, and no more than they may be, by what its text tells.
func formed[T thing](t *testing.T, what string, h skew.Heap[T]) {
	t.Helper()
	ranks := ranksOf(h.Show())
	for i := 1; i < len(ranks); i++ {
		if ranks[i] < ranks[i-1] || ranks[i] == ranks[i-1] && i > 1 {
			t.Fatalf("%s: ranks %v", what, ranks)
		}
	}
	if most := bits.Len(uint(h.Size())) + 1; len(ranks) > most {
		t.Fatalf("%s: %d trees of %d things, at most %d", what, len(ranks), h.Size(), most)
	}
}

// ranksOf is how many kids each tree of a text has.
func ranksOf(show string) []int {
	var ranks []int
	open := 0
	for _, c := range show {
		switch c {
		case '(':
			open++
			if open == 1 {
				ranks = append(ranks, 0)
			}
			if open == 2 {
				ranks[len(ranks)-1]++
			}
		case ')':
			open--
		}
	}
	return ranks
}

// often is how often each thing is there.
func often[T thing](l []T) map[T]int {
	n := map[T]int{}
	for _, x := range l {
		n[x]++
	}
	return n
}

// emptied fails, unless Pop after Pop tells all things of a heap, each as often, in order, and then that there is none.
func emptied[T thing](t *testing.T, what string, p pair[T]) {
	t.Helper()
	left := often(p.want.all())
	h := p
	for i, want := range p.want.inOrder() {
		got, is := h.heap.Min(nil)
		if got.Key() != want || !is {
			t.Fatalf("%s: %d popped of %s: Min() = %v, %v, want %v", what, i, p.want.show(), got, is, want)
		}
		if left[got] == 0 {
			t.Fatalf("%s: %d popped of %s: %v is there too often", what, i, p.want.show(), got)
		}
		left[got]--
		h = h.pop(t)
	}
	if h.heap.Size() != 0 || h.heap.Show() != "." || len(h.heap.All()) != 0 {
		t.Fatalf("%s: all popped: Size() = %d, Show() = %s", what, h.heap.Size(), h.heap.Show())
	}
	holds(t, what+", from which all was popped", p.heap, p.want)
}

// shows fails, unless a heap is as the document tells it, and its text is this one, written out.
func shows[T thing](t *testing.T, p pair[T], want string) {
	t.Helper()
	if got := p.heap.Show(); got != want {
		t.Errorf("Show() = %s, want %s", got, want)
	}
	holds(t, want, p.heap, p.want)
}

// el is the element p:0.
func el(p int64) api.Elem { return api.Elem{P: p} }

// els are the elements p:0.
func els(ps ...int64) []api.Elem {
	var l []api.Elem
	for _, p := range ps {
		l = append(l, el(p))
	}
	return l
}

// some are so many elements, in an order of their own.
func some(n int) []api.Elem {
	var l []api.Elem
	for i := range int64(n) {
		l = append(l, api.Elem{P: i * 37 % 23, Id: i % 3})
	}
	return l
}

// things are named ones: of each text its first character is the Key, and all of it the name.
func things(names string) []named {
	var l []named
	for name := range strings.FieldsSeq(names) {
		l = append(l, named{int64(name[0] - '0'), name})
	}
	return l
}

// tells fails, unless a heap of named ones has just these, in this order, and is as the document tells it.
func tells(t *testing.T, p pair[named], want string) {
	t.Helper()
	var l []string
	for _, x := range p.heap.All() {
		l = append(l, x.name)
	}
	if got := strings.Join(l, " "); got != want {
		t.Errorf("All() = %s, want %s", got, want)
	}
	holds(t, want, p.heap, p.want)
}

// P9.1, P9.2: Of 2:0, 1:0, 3:0: 6 steps.
func TestExample(t *testing.T) {
	m := meter.New()
	h := skew.Of(m, el(2), el(1), el(3))
	if got := h.Show(); got != "(1:0 +3:0 (2:0))" {
		t.Errorf("Show() = %s", got)
	}
	if got := m.Steps(); got != 6 {
		t.Errorf("Steps() = %d", got)
	}
	counted(t, "Of", m, steps{2, 4})
	if x, is := h.Min(m); x != el(1) || !is {
		t.Errorf("Min() = %v, %v", x, is)
	}
	if got := h.All(); !slices.Equal(got, els(1, 3, 2)) {
		t.Errorf("All() = %v", got)
	}
	counted(t, "and Min and All", m, steps{2, 4})
	p := of(t, els(2, 1, 3)...)
	shows(t, p, "(1:0 +3:0 (2:0))")
	emptied(t, "the example", p)
}

// P9.1, P9.2: of no things is the empty heap, whoever makes it; it tells nothing, and takes no step.
func TestEmpty(t *testing.T) {
	var zero skew.Heap[api.Elem]
	none := pair[api.Elem]{}
	empty := []pair[api.Elem]{none, {zero, nil}, of[api.Elem](t), of(t, []api.Elem{}...), of(t, el(4)).pop(t), none.pop(t), none.meld(t, none), of(t, els(2, 1, 3)...).pop(t).pop(t).pop(t)}
	for _, p := range empty {
		shows(t, p, ".")
		m := meter.New()
		if x, is := p.heap.Min(m); x != (api.Elem{}) || is {
			t.Errorf("Min() of none = %v, %v", x, is)
		}
		if h, is := p.heap.Pop(m); is || h.Size() != 0 || h.Show() != "." {
			t.Errorf("Pop() of none = %s, %v", h.Show(), is)
		}
		if p.heap.Size() != 0 || len(p.heap.All()) != 0 {
			t.Errorf("Size() of none = %d, All() = %v", p.heap.Size(), p.heap.All())
		}
		if h := p.heap.Meld(m, zero); h.Size() != 0 || h.Show() != "." {
			t.Errorf("Meld of none and none = %s", h.Show())
		}
		counted(t, "Min, Pop, Size, All and Meld of none", m, steps{})
		shows(t, p.insert(t, el(7)), "(7:0)")
		shows(t, p.pop(t), ".")
		emptied(t, "none", p)
	}
	if x, is := (skew.Heap[named]{}).Min(nil); x != (named{}) || is {
		t.Errorf("Min() of none = %v, %v", x, is)
	}
	if x, is := (skew.Heap[*box]{}).Min(nil); x != nil || is {
		t.Errorf("Min() of none = %v, %v", x, is)
	}
}

// P9.1: a skew link where the first two trees have one rank, else a leaf ahead of all; of equal roots the thing that is put in is the root, and of two trees the first one.
func TestInsert(t *testing.T) {
	rows := []struct {
		what, was, want string
		l               []int64
		x               int64
		s               steps
	}{
		{"into the empty heap", ".", "(3:0)", nil, 3, steps{0, 1}},
		{"into one tree, ahead", "(3:0)", "(1:0) (3:0)", []int64{3}, 1, steps{0, 1}},
		{"into one tree, behind", "(3:0)", "(4:0) (3:0)", []int64{3}, 4, steps{0, 1}},
		{"into two leaves, ahead of both", "(6:0) (5:0)", "(4:0 +5:0 (6:0))", []int64{5, 6}, 4, steps{2, 2}},
		{"into two leaves, between", "(7:0) (5:0)", "(5:0 +6:0 (7:0))", []int64{5, 7}, 6, steps{2, 2}},
		{"into two leaves, behind both", "(5:0) (6:0)", "(5:0 +7:0 (6:0))", []int64{6, 5}, 7, steps{2, 2}},
		{"into two leaves, as the lesser one", "(5:0) (6:0)", "(5:0 +5:0 (6:0))", []int64{6, 5}, 5, steps{2, 2}},
		{"into one tree of rank 1", "(1:0 +3:0 (2:0))", "(0:0) (1:0 +3:0 (2:0))", []int64{2, 1, 3}, 0, steps{0, 1}},
		{"into two trees of unlike ranks", "(0:0) (1:0 +3:0 (2:0))", "(9:0) (0:0) (1:0 +3:0 (2:0))", []int64{2, 1, 3, 0}, 9, steps{0, 1}},
		{"into two leaves ahead of a tree of the rank that comes", "(9:0) (0:0) (1:0 +3:0 (2:0))", "(0:0 +4:0 (9:0)) (1:0 +3:0 (2:0))", []int64{2, 1, 3, 0, 9}, 4, steps{2, 2}},
		{"into two trees of rank 1, ahead of both", "(0:0 +4:0 (9:0)) (1:0 +3:0 (2:0))", "(-1:0 +0:0 +4:0 (1:0 +3:0 (2:0)) (9:0))", []int64{2, 1, 3, 0, 9, 4}, -1, steps{2, 2}},
		{"into two trees of rank 1, behind both", "(0:0 +4:0 (9:0)) (1:0 +3:0 (2:0))", "(0:0 +8:0 +4:0 (1:0 +3:0 (2:0)) (9:0))", []int64{2, 1, 3, 0, 9, 4}, 8, steps{2, 2}},
		{"into two trees of rank 1, the second one ahead", "(4:0 +6:0 (5:0)) (1:0 +3:0 (2:0))", "(1:0 +7:0 +3:0 (4:0 +6:0 (5:0)) (2:0))", []int64{1, 2, 3, 4, 5, 6}, 7, steps{2, 2}},
		{"into two trees of rank 1, behind which is one of rank 2", "(8:0 +9:0 (8:0)) (7:0 +7:0 (9:0)) (1:0 +7:0 +3:0 (4:0 +6:0 (5:0)) (2:0))", "(5:0 +7:0 +7:0 (8:0 +9:0 (8:0)) (9:0)) (1:0 +7:0 +3:0 (4:0 +6:0 (5:0)) (2:0))", []int64{1, 2, 3, 4, 5, 6, 7, 9, 7, 7, 8, 8, 9}, 5, steps{2, 2}},
	}
	for _, r := range rows {
		p := of(t, els(r.l...)...)
		shows(t, p, r.was)
		m := meter.New()
		p.heap.Insert(m, el(r.x))
		counted(t, "Insert "+r.what, m, r.s)
		q := p.insert(t, el(r.x))
		shows(t, q, r.want)
		emptied(t, "Insert "+r.what, q)
		holds(t, "Insert "+r.what, p.heap, p.want)
	}
}

// P9.1: Of is one Insert after the other, in order, into the empty heap.
func TestOf(t *testing.T) {
	rows := []struct {
		want string
		l    []int64
	}{
		{".", nil},
		{"(5:0)", []int64{5}},
		{"(2:0) (1:0)", []int64{1, 2}},
		{"(1:0) (2:0)", []int64{2, 1}},
		{"(1:0 +3:0 (2:0))", []int64{1, 2, 3}},
		{"(1:0 +2:0 (3:0))", []int64{3, 2, 1}},
		{"(4:0) (1:0 +3:0 (2:0))", []int64{1, 2, 3, 4}},
		{"(5:0) (4:0) (1:0 +3:0 (2:0))", []int64{1, 2, 3, 4, 5}},
		{"(4:0 +6:0 (5:0)) (1:0 +3:0 (2:0))", []int64{1, 2, 3, 4, 5, 6}},
		{"(1:0 +7:0 +3:0 (4:0 +6:0 (5:0)) (2:0))", []int64{1, 2, 3, 4, 5, 6, 7}},
		{"(1:0 +2:0 +3:0 (5:0 +6:0 (7:0)) (4:0))", []int64{7, 6, 5, 4, 3, 2, 1}},
		{"(8:0) (1:0 +7:0 +3:0 (4:0 +6:0 (5:0)) (2:0))", []int64{1, 2, 3, 4, 5, 6, 7, 8}},
	}
	for _, r := range rows {
		p := of(t, els(r.l...)...)
		shows(t, p, r.want)
		emptied(t, "Of", p)
		var one pair[api.Elem]
		for _, x := range r.l {
			one = one.insert(t, el(x))
		}
		shows(t, one, r.want)
	}
}

// ranksPut is the ranks of a heap's trees when so many things were put in, and how many of these were put in by a skew link.
func ranksPut(n int) (ranks []int, skews int) {
	for range n {
		if len(ranks) > 1 && ranks[0] == ranks[1] {
			ranks = slices.Concat([]int{ranks[0] + 1}, ranks[2:])
			skews++
		} else {
			ranks = slices.Concat([]int{0}, ranks)
		}
	}
	return ranks, skews
}

// P9.1, P9.2, P9.3: whatever the things, Of makes a step for each leaf, and four for each skew link; Min makes one for each tree but the first one, of which there are as many as bits, and one more, at most.
func TestOfSteps(t *testing.T) {
	for n := range 300 {
		ranks, skews := ranksPut(n)
		for _, l := range [][]api.Elem{some(n), slices.Repeat(els(4), n)} {
			m := meter.New()
			h := skew.Of(m, l...)
			counted(t, "Of", m, steps{2 * skews, n + skews})
			if got := ranksOf(h.Show()); !slices.Equal(got, ranks) {
				t.Errorf("Of %d things: ranks %v, want %v", n, got, ranks)
			}
			if len(ranks) > bits.Len(uint(n))+1 || h.Size() != n {
				t.Errorf("Of %d things: %d trees, Size() = %d", n, len(ranks), h.Size())
			}
			m = meter.New()
			if _, is := h.Min(m); is != (n > 0) {
				t.Errorf("Min() of %d: %v", n, is)
			}
			counted(t, "Min", m, steps{compared: max(len(ranks)-1, 0)})
		}
	}
}

// P9.1: what is handed to Of isn't changed, and isn't kept.
func TestOfKeepsNothing(t *testing.T) {
	l := els(4, 2, 2, 9, -1)
	given := slices.Clone(l)
	h := skew.Of(nil, l...)
	if !slices.Equal(l, given) {
		t.Errorf("Of changed its list: %v", l)
	}
	clear(l)
	p := pair[api.Elem]{h, modelOf(new(steps), given...)}
	holds(t, "behind a change of the list", h, p.want)
	emptied(t, "behind a change of the list", p)
}

// P9.1: the first tree of lesser rank stands ahead, whichever heap has it; two of one rank are linked, and put ahead of what the rest gives; both heaps are levelled before.
func TestMeld(t *testing.T) {
	rows := []struct {
		what, was, of, want string
		h, o                []int64
		s                   steps
	}{
		{"the first one's rank is less", "(9:0)", "(1:0 +3:0 (2:0))", "(9:0) (1:0 +3:0 (2:0))", []int64{9}, []int64{2, 1, 3}, steps{}},
		{"the first one's rank is greater", "(1:0 +3:0 (2:0))", "(9:0)", "(9:0) (1:0 +3:0 (2:0))", []int64{2, 1, 3}, []int64{9}, steps{}},
		{"one rank, the first one ahead", "(1:0)", "(2:0)", "(1:0 (2:0))", []int64{1}, []int64{2}, steps{1, 1}},
		{"one rank, the second one ahead", "(2:0)", "(1:0)", "(1:0 (2:0))", []int64{2}, []int64{1}, steps{1, 1}},
		{"one rank, and things beside", "(4:0 +6:0 (5:0))", "(1:0 +3:0 (2:0))", "(1:0 +3:0 (4:0 +6:0 (5:0)) (2:0))", []int64{4, 5, 6}, []int64{1, 2, 3}, steps{1, 1}},
		{"the first one's first two are of one rank", "(2:0) (1:0)", "(4:0 +6:0 (5:0))", "(1:0 (4:0 +6:0 (5:0)) (2:0))", []int64{1, 2}, []int64{4, 5, 6}, steps{2, 2}},
		{"the second one's first two are of one rank", "(4:0 +6:0 (5:0))", "(2:0) (1:0)", "(1:0 (4:0 +6:0 (5:0)) (2:0))", []int64{4, 5, 6}, []int64{1, 2}, steps{2, 2}},
		{"the first two of both are of one rank", "(2:0) (1:0)", "(4:0) (3:0)", "(1:0 (3:0 (4:0)) (2:0))", []int64{1, 2}, []int64{3, 4}, steps{3, 3}},
		{"what is levelled carries on", "(5:0) (4:0) (1:0 +3:0 (2:0))", "(6:0)", "(6:0) (1:0 +3:0 (4:0 (5:0)) (2:0))", []int64{1, 2, 3, 4, 5}, []int64{6}, steps{2, 2}},
		{"what is levelled carries on, in the other heap", "(6:0)", "(5:0) (4:0) (1:0 +3:0 (2:0))", "(6:0) (1:0 +3:0 (4:0 (5:0)) (2:0))", []int64{6}, []int64{1, 2, 3, 4, 5}, steps{2, 2}},
		{"one rank, then no more", "(1:0)", "(2:0) (3:0 +5:0 +4:0 (6:0 +8:0 (7:0)) (9:0))", "(1:0 (2:0)) (3:0 +5:0 +4:0 (6:0 +8:0 (7:0)) (9:0))", []int64{1}, []int64{3, 9, 4, 6, 7, 8, 5, 2}, steps{1, 1}},
		{"what is linked carries on", "(8:0)", "(4:0) (1:0 +3:0 (2:0))", "(1:0 +3:0 (4:0 (8:0)) (2:0))", []int64{8}, []int64{1, 2, 3, 4}, steps{2, 2}},
		{"what is linked carries on, from the other heap", "(4:0) (1:0 +3:0 (2:0))", "(8:0)", "(1:0 +3:0 (4:0 (8:0)) (2:0))", []int64{1, 2, 3, 4}, []int64{8}, steps{2, 2}},
		{"the rest is melded first", "(4:0) (1:0 +3:0 (2:0))", "(8:0) (5:0 +7:0 (6:0))", "(4:0 (8:0)) (1:0 +3:0 (5:0 +7:0 (6:0)) (2:0))", []int64{1, 2, 3, 4}, []int64{5, 6, 7, 8}, steps{2, 2}},
		{"one with one of the other's ranks behind it", "(4:0 +6:0 (5:0)) (1:0 +3:0 (2:0))", "(9:0) (7:0 +9:0 (8:0))", "(9:0) (7:0 +9:0 (8:0)) (1:0 +3:0 (4:0 +6:0 (5:0)) (2:0))", []int64{1, 2, 3, 4, 5, 6}, []int64{7, 8, 9, 9}, steps{1, 1}},
	}
	for _, r := range rows {
		h, o := of(t, els(r.h...)...), of(t, els(r.o...)...)
		shows(t, h, r.was)
		shows(t, o, r.of)
		m := meter.New()
		h.heap.Meld(m, o.heap)
		counted(t, r.what, m, r.s)
		p := h.meld(t, o)
		if got := p.heap.Show(); got != r.want {
			t.Errorf("%s: Show() = %s, want %s", r.what, got, r.want)
		}
		holds(t, r.what, p.heap, p.want)
		emptied(t, r.what, p)
		holds(t, r.what, h.heap, h.want)
		holds(t, r.what, o.heap, o.want)
	}
}

// P9.1: where one has no trees, the other one is levelled all the same, by as many steps as that takes.
func TestMeldOfEmpty(t *testing.T) {
	rows := []struct {
		was, want string
		l         []int64
		s         steps
	}{
		{".", ".", nil, steps{}},
		{"(5:0)", "(5:0)", []int64{5}, steps{}},
		{"(6:0) (5:0)", "(5:0 (6:0))", []int64{5, 6}, steps{1, 1}},
		{"(5:0) (6:0)", "(5:0 (6:0))", []int64{6, 5}, steps{1, 1}},
		{"(1:0 +3:0 (2:0))", "(1:0 +3:0 (2:0))", []int64{2, 1, 3}, steps{}},
		{"(4:0) (1:0 +3:0 (2:0))", "(4:0) (1:0 +3:0 (2:0))", []int64{1, 2, 3, 4}, steps{}},
		{"(5:0) (4:0) (1:0 +3:0 (2:0))", "(1:0 +3:0 (4:0 (5:0)) (2:0))", []int64{1, 2, 3, 4, 5}, steps{2, 2}},
		{"(4:0 +6:0 (5:0)) (1:0 +3:0 (2:0))", "(1:0 +3:0 (4:0 +6:0 (5:0)) (2:0))", []int64{1, 2, 3, 4, 5, 6}, steps{1, 1}},
		{"(9:0) (8:0) (1:0 +7:0 +3:0 (4:0 +6:0 (5:0)) (2:0))", "(8:0 (9:0)) (1:0 +7:0 +3:0 (4:0 +6:0 (5:0)) (2:0))", []int64{1, 2, 3, 4, 5, 6, 7, 8, 9}, steps{1, 1}},
	}
	for _, r := range rows {
		p := of(t, els(r.l...)...)
		shows(t, p, r.was)
		for _, none := range []pair[api.Elem]{{}, of[api.Elem](t), of(t, el(0)).pop(t)} {
			m := meter.New()
			p.heap.Meld(m, none.heap)
			counted(t, "Meld, the second one empty", m, r.s)
			m = meter.New()
			none.heap.Meld(m, p.heap)
			counted(t, "Meld, the first one empty", m, r.s)
			shows(t, p.meld(t, none), r.want)
			shows(t, none.meld(t, p), r.want)
			shows(t, none, ".")
			emptied(t, "Meld of empty", p.meld(t, none))
		}
		shows(t, p, r.was)
	}
}

// P9.1: of two roots of which neither stands ahead, the tree of the heap that is asked wins, and of one heap's first two the first one.
func TestMeldOfEqualKeys(t *testing.T) {
	a, b := of(t, things("1a")...), of(t, things("1b")...)
	tells(t, a.meld(t, b), "1a 1b")
	tells(t, b.meld(t, a), "1b 1a")
	two := of(t, things("1c 1d")...)
	tells(t, two, "1d 1c")
	tells(t, two.meld(t, pair[named]{}), "1d 1c")
	tells(t, pair[named]{}.meld(t, two), "1d 1c")
	tells(t, two.meld(t, a), "1a 1d 1c")
	shows(t, two.meld(t, a), "(1:0) (1:0 (1:0))")
	tells(t, two.meld(t, of(t, things("1e 1f")...)), "1d 1f 1e 1c")
	tells(t, of(t, things("1e 1f")...).meld(t, two), "1f 1d 1c 1e")
	// What is levelled wins over the tree into which it carries on.
	five := of(t, things("1a 1b 1c 1d 1e")...)
	tells(t, five, "1e 1d 1c 1b 1a")
	shows(t, five, "(1:0) (1:0) (1:0 +1:0 (1:0))")
	tells(t, five.meld(t, pair[named]{}), "1e 1c 1b 1a 1d")
	shows(t, five.meld(t, pair[named]{}), "(1:0 (1:0 +1:0 (1:0)) (1:0))")
	// What is linked wins over the rest into which it carries on, whichever heap that came of.
	four := of(t, things("1a 1b 1c 1d")...)
	tells(t, four, "1d 1c 1b 1a")
	tells(t, of(t, things("1x")...).meld(t, four), "1x 1c 1b 1a 1d")
	tells(t, four.meld(t, of(t, things("1x")...)), "1d 1c 1b 1a 1x")
	// The Id tells, where the P doesn't.
	c, d := of(t, api.Elem{P: 1, Id: -1}), of(t, api.Elem{P: 1, Id: -2})
	shows(t, c.meld(t, d), "(1:-2 (1:-1))")
	shows(t, d.meld(t, c), "(1:-2 (1:-1))")
}

// P9.1, P9.2: of things with one Key it is told which one is the root, and the first tree of several is the one that is popped.
func TestEqualKeys(t *testing.T) {
	tells(t, of(t, things("5a 5b")...), "5b 5a")
	tells(t, of(t, things("5a 5b 5c")...), "5c 5b 5a")
	tells(t, of(t, things("5a 5b 7c")...), "5b 7c 5a")
	tells(t, of(t, things("5a 6b 5c")...), "5c 5a 6b")
	tells(t, of(t, things("6a 5b 5c")...), "5c 5b 6a")
	seven := of(t, things("5a 5b 5c 5d 5e 5f 5g")...)
	tells(t, seven, "5g 5f 5e 5c 5b 5a 5d")
	tells(t, seven.pop(t), "5e 5f 5d 5c 5b 5a")
	two := of(t, things("5a 5b")...)
	if x, is := two.heap.Min(nil); x.name != "5b" || !is {
		t.Errorf("Min() = %v, %v", x, is)
	}
	tells(t, two.pop(t), "5a")
	four := of(t, things("5a 5b 5c 5d")...)
	if x, is := four.heap.Min(nil); x.name != "5d" || !is {
		t.Errorf("Min() = %v, %v", x, is)
	}
	tells(t, four.pop(t), "5c 5b 5a")
	behind := of(t, things("5a 5b 5c 5d 6e")...)
	tells(t, behind, "6e 5d 5c 5b 5a")
	if x, is := behind.heap.Min(nil); x.name != "5d" || !is {
		t.Errorf("Min() = %v, %v", x, is)
	}
	tells(t, behind.pop(t), "6e 5c 5b 5a")
	for n := range 40 {
		var l []named
		for i := range n {
			l = append(l, named{5, strconv.Itoa(i)})
		}
		same := of(t, l...)
		holds(t, "equal Keys", same.heap, same.want)
		for _, p := range []pair[named]{same, same.insert(t, named{5, "x"}), same.insert(t, named{4, "x"}), same.insert(t, named{6, "x"}), same.meld(t, same), same.meld(t, of(t, things("5 4 6 5")...))} {
			holds(t, "and others", p.heap, p.want)
			emptied(t, "and others", p)
		}
	}
}

// P9.2: the least root's kids, the other way round, melded with the other trees, levelled; and into that what stands beside the root, in order.
func TestPop(t *testing.T) {
	rows := []struct {
		what, was, want string
		l               []int64
		s               steps
	}{
		{"one thing", "(4:0)", ".", []int64{4}, steps{}},
		{"one tree, one beside", "(1:0 +3:0 (2:0))", "(3:0) (2:0)", []int64{2, 1, 3}, steps{0, 1}},
		{"one tree, several beside, which are put in in order", "(1:0 +7:0 +3:0 (4:0 +6:0 (5:0)) (2:0))", "(2:0 +3:0 (7:0)) (4:0 +6:0 (5:0))", []int64{1, 2, 3, 4, 5, 6, 7}, steps{2, 3}},
		{"two leaves, the first one", "(1:0) (2:0)", "(2:0)", []int64{2, 1}, steps{1, 0}},
		{"two leaves, the last one", "(2:0) (1:0)", "(2:0)", []int64{1, 2}, steps{1, 0}},
		{"the first of two trees", "(1:0) (2:0 +4:0 (3:0))", "(2:0 +4:0 (3:0))", []int64{2, 3, 4, 1}, steps{1, 0}},
		{"the last of two trees", "(4:0) (1:0 +3:0 (2:0))", "(3:0) (2:0 (4:0))", []int64{1, 2, 3, 4}, steps{2, 2}},
		{"the last one of three, the others are levelled", "(5:0) (4:0) (1:0 +3:0 (2:0))", "(3:0) (2:0) (4:0 (5:0))", []int64{1, 2, 3, 4, 5}, steps{3, 2}},
		{"the first one of three", "(1:0) (4:0) (2:0 +3:0 (2:0))", "(4:0) (2:0 +3:0 (2:0))", []int64{2, 2, 3, 4, 1}, steps{2, 0}},
		{"the one in the middle", "(5:0) (1:0) (2:0 +3:0 (2:0))", "(5:0) (2:0 +3:0 (2:0))", []int64{2, 2, 3, 1, 5}, steps{2, 0}},
		{"the first of two trees of rank 1", "(1:0 +6:0 (5:0)) (2:0 +4:0 (3:0))", "(6:0) (5:0) (2:0 +4:0 (3:0))", []int64{2, 3, 4, 1, 5, 6}, steps{1, 1}},
		{"the last of two trees of rank 1", "(4:0 +6:0 (5:0)) (1:0 +3:0 (2:0))", "(3:0) (2:0) (4:0 +6:0 (5:0))", []int64{1, 2, 3, 4, 5, 6}, steps{1, 1}},
		{"the last one, ahead of which two are levelled and carry on into the kids", "(9:0) (8:0) (1:0 +7:0 +3:0 (4:0 +6:0 (5:0)) (2:0))", "(2:0 +3:0 (7:0)) (4:0 +6:0 (8:0 (9:0)) (5:0))", []int64{1, 2, 3, 4, 5, 6, 7, 8, 9}, steps{6, 5}},
		{"equal roots: the first one", "(1:0) (1:0 +1:0 (9:0))", "(1:0 +1:0 (9:0))", []int64{9, 1, 1, 1}, steps{1, 0}},
		{"equal roots behind a greater one", "(9:0) (1:0) (1:0 +3:0 (2:0))", "(9:0) (1:0 +3:0 (2:0))", []int64{2, 1, 3, 1, 9}, steps{2, 0}},
		{"a kid and another tree of equal roots: the kid", "(2:0 +8:0 (9:0)) (1:0 +5:0 +3:0 (2:0 +6:0 (7:0)) (4:0))", "(3:0 +4:0 (5:0)) (2:0 +6:0 (2:0 +8:0 (9:0)) (7:0))", []int64{4, 1, 3, 7, 2, 6, 5, 9, 2, 8}, steps{4, 4}},
	}
	for _, r := range rows {
		p := of(t, els(r.l...)...)
		shows(t, p, r.was)
		m := meter.New()
		if _, is := p.heap.Pop(m); !is {
			t.Errorf("%s: Pop() of %s: false", r.what, p.heap.Show())
		}
		counted(t, "Pop, "+r.what, m, r.s)
		q := p.pop(t)
		shows(t, q, r.want)
		if q.heap.Size() != len(r.l)-1 {
			t.Errorf("Pop() of %s: Size() = %d", p.heap.Show(), q.heap.Size())
		}
		emptied(t, "Pop", p)
	}
}

// P9.2: Pop of trees beside whose roots nothing stands, which are those of melded heaps.
func TestPopOfNoneBeside(t *testing.T) {
	two := of(t, els(1, 2)...).meld(t, pair[api.Elem]{})
	shows(t, two, "(1:0 (2:0))")
	shows(t, two.pop(t), "(2:0)")
	four := two.meld(t, of(t, els(4, 3)...))
	shows(t, four, "(1:0 (3:0 (4:0)) (2:0))")
	m := meter.New()
	four.heap.Pop(m)
	counted(t, "Pop of one tree, none beside", m, steps{})
	shows(t, four.pop(t), "(2:0) (3:0 (4:0))")
	more := four.insert(t, el(9)).insert(t, el(8))
	shows(t, more, "(8:0) (9:0) (1:0 (3:0 (4:0)) (2:0))")
	m = meter.New()
	more.heap.Pop(m)
	counted(t, "Pop of many trees, none beside", m, steps{4, 2})
	shows(t, more.pop(t), "(2:0) (3:0 (8:0 (9:0)) (4:0))")
	emptied(t, "none beside", more)
}

// P9.2: Min is the thing with the least Key, by a comparison for each tree but the first one, and takes nothing out.
func TestMin(t *testing.T) {
	p := of(t, els(8, 3, 5, 3, 9)...)
	shows(t, p, "(9:0) (3:0) (3:0 +5:0 (8:0))")
	m := meter.New()
	for i := range 5 {
		if x, is := p.heap.Min(m); x != el(3) || !is {
			t.Errorf("Min() = %v, %v", x, is)
		}
		counted(t, "Min", m, steps{compared: 2 * (i + 1)})
	}
	holds(t, "asked for its least thing", p.heap, p.want)
	// Wherever it stands, it is told.
	for n := range 12 {
		for i := range n {
			l := slices.Repeat(els(4), n)
			l[i] = el(3)
			if x, is := skew.Of(nil, l...).Min(nil); x != el(3) || !is {
				t.Errorf("Min() = %v, %v", x, is)
			}
		}
	}
	// A zero element that is there is told as one; and one that isn't, isn't.
	if x, is := skew.Of(nil, api.Elem{}, el(1)).Min(nil); x != (api.Elem{}) || !is {
		t.Errorf("Min() = %v, %v", x, is)
	}
	if x, is := skew.Of(nil, el(1), el(2), el(3), el(4), el(5)).Min(nil); x != el(1) || !is {
		t.Errorf("Min() = %v, %v", x, is)
	}
}

// P9.2: All is the trees' All, in order, in new memory.
func TestAll(t *testing.T) {
	p := of(t, els(1, 2, 3, 4, 5, 6, 7, 8, 9)...)
	shows(t, p, "(9:0) (8:0) (1:0 +7:0 +3:0 (4:0 +6:0 (5:0)) (2:0))")
	want := els(9, 8, 1, 7, 3, 4, 6, 5, 2)
	l := p.heap.All()
	if !slices.Equal(l, want) {
		t.Errorf("All() = %v", l)
	}
	clear(l[:cap(l)])
	if got := p.heap.All(); !slices.Equal(got, want) {
		t.Errorf("behind a change of what was answered: All() = %v", got)
	}
	one, two := p.heap.All(), p.heap.All()
	clear(append(one, el(0)))
	if !slices.Equal(two, want) {
		t.Errorf("one answer changed another one: %v", two)
	}
	shows(t, p, "(9:0) (8:0) (1:0 +7:0 +3:0 (4:0 +6:0 (5:0)) (2:0))")
	emptied(t, "All", p)
}

// edges are elements at both ends of what 64 bits hold.
func edges() []api.Elem {
	var l []api.Elem
	for _, p := range []int64{math.MinInt64, math.MinInt64 + 1, -1, 0, 1, math.MaxInt64 - 1, math.MaxInt64} {
		for _, id := range []int64{math.MinInt64, -1, 0, math.MaxInt64} {
			l = append(l, api.Elem{P: p, Id: id})
		}
	}
	return l
}

// P9.1, P9.2, P9.3: elements at both ends of 64 bits are elements as others are.
func TestEdges(t *testing.T) {
	low, high := api.Elem{P: math.MinInt64, Id: math.MaxInt64}, api.Elem{P: math.MaxInt64, Id: math.MinInt64}
	lowText, highText := "-9223372036854775808:9223372036854775807", "9223372036854775807:-9223372036854775808"
	shows(t, of(t, low, high), "("+highText+") ("+lowText+")")
	shows(t, of(t, high).meld(t, of(t, low)), "("+lowText+" ("+highText+"))")
	shows(t, of(t, low).meld(t, of(t, high)), "("+lowText+" ("+highText+"))")
	shows(t, of(t, low, high, low), "("+lowText+" +"+lowText+" ("+highText+"))")
	shows(t, of(t, high, low, high), "("+lowText+" +"+highText+" ("+highText+"))")
	l := edges()
	for first := range l {
		var mixed []api.Elem
		for i := range l {
			mixed = append(mixed, l[(first+i*11)%len(l)])
		}
		p := of(t, mixed...)
		holds(t, "Of the edges", p.heap, p.want)
		emptied(t, "the edges", p)
		half := of(t, mixed[:14]...).meld(t, of(t, mixed[14:]...))
		holds(t, "Meld of the edges", half.heap, half.want)
		emptied(t, "the edges, melded", half)
		if !slices.Equal(half.want.inOrder(), l) {
			t.Fatalf("elements went astray: %s", half.heap.Show())
		}
	}
}

// P9.1, P9.2: things that are no elements are in order by their own Keys.
func TestOwnKeys(t *testing.T) {
	p := of(t, down(1), down(3), down(2), down(-4))
	shows(t, p, "(4:7) (-3:7 +-2:7 (-1:7))")
	if x, is := p.heap.Min(nil); x != 3 || !is {
		t.Errorf("Min() = %v, %v", x, is)
	}
	for _, q := range []pair[down]{p, p.meld(t, p), p.insert(t, 9), p.insert(t, math.MinInt16).meld(t, of(t, down(math.MaxInt16)))} {
		holds(t, "the other way round", q.heap, q.want)
		emptied(t, "the other way round", q)
	}
	one, two := &box{el(5)}, &box{el(5)}
	b := of(t, one, two, &box{el(7)}, &box{el(5)})
	holds(t, "by pointers", b.heap, b.want)
	emptied(t, "by pointers", b)
	if l := skew.Of(nil, one, two).All(); l[0] != two || l[1] != one {
		t.Errorf("All() = %v", l)
	}
	k := of[rank.Keyed](t, el(4), down(-3), named{3, "x"}, &box{el(3)}, el(1))
	shows(t, k, "(1:0) (3:0) (3:0 +3:7 (4:0))")
	emptied(t, "of several types", k)
}

// P9.1, P9.2: heaps of things that have heaps of their kind.
func TestNested(t *testing.T) {
	var n nest
	for i := range int64(5) {
		n = nest{el(i), skew.Of(nil, n, nest{e: el(-i)}, n)}
	}
	p := of(t, n, nest{e: el(2)}, nest{e: el(9)})
	shows(t, p, "(2:0 +9:0 (4:0))")
	shows(t, p.pop(t), "(9:0) (4:0)")
	x, is := p.pop(t).heap.Min(nil)
	if !is || x.others.Show() != "(-4:0 +3:0 (3:0))" || x.others.Size() != 3 {
		t.Errorf("Min() = %s, %v", x.others.Show(), is)
	}
	emptied(t, "nested", p)
}

// P9.1, P9.2: no call panics because a thing does, a nil one, say; and each thing is told as often as it was put in.
func TestThingsThatFail(t *testing.T) {
	a, b := &box{el(-1)}, &box{el(1)}
	h := skew.Of(nil, nil, a, nil, b, nil)
	if h.Size() != 5 || h.Show() == "" {
		t.Errorf("Size() = %d, Show() = %s", h.Size(), h.Show())
	}
	fails(t, h.Meld(nil, h), []*box{a, a, b, b, nil, nil, nil, nil, nil, nil})
	f := skew.Of(meter.New(), failing{1}, failing{2}, failing{3}).Insert(nil, failing{4})
	fails(t, f, []failing{{1}, {2}, {3}, {4}})
	k := skew.Of[rank.Keyed](meter.New(), nil, el(3), nil, failing{1})
	fails(t, k, []rank.Keyed{nil, nil, el(3), failing{1}})
}

// fails fails, unless Pop after Pop tells just these things, in some order.
func fails[T thing](t *testing.T, h skew.Heap[T], want []T) {
	t.Helper()
	left := often(want)
	for n := len(want); n > 0; n-- {
		x, is := h.Min(meter.New())
		if !is || left[x] == 0 || h.Size() != n || len(h.All()) != n {
			t.Fatalf("Min() = %v, %v, Size() = %d, want %d", x, is, h.Size(), n)
		}
		left[x]--
		h, _ = h.Pop(meter.New())
	}
	if _, is := h.Pop(nil); is || h.Size() != 0 {
		t.Errorf("Size() = %d", h.Size())
	}
}

// P9.3: equal things are there as often as they were put in.
func TestEqualThings(t *testing.T) {
	for n := range 40 {
		same := of(t, slices.Repeat([]api.Elem{el(5)}, n)...)
		holds(t, "equal things", same.heap, same.want)
		if same.heap.Size() != n {
			t.Errorf("Size() = %d, want %d", same.heap.Size(), n)
		}
		for _, p := range []pair[api.Elem]{same, same.insert(t, el(5)), same.insert(t, el(4)), same.insert(t, el(6)), same.meld(t, same), same.meld(t, of(t, els(5, 4, 6, 5)...))} {
			holds(t, "and others", p.heap, p.want)
			emptied(t, "and others", p)
		}
	}
}

// P9.1, P9.3: a heap melded with itself has each thing twice, and is there as it was.
func TestMeldWithItself(t *testing.T) {
	p := of(t, els(2, 1, 3)...)
	twice := p.meld(t, p)
	shows(t, p, "(1:0 +3:0 (2:0))")
	shows(t, twice, "(1:0 +3:0 (1:0 +3:0 (2:0)) (2:0))")
	if !slices.Equal(twice.want.inOrder(), els(1, 1, 2, 2, 3, 3)) {
		t.Errorf("twice: %s", twice.heap.Show())
	}
	emptied(t, "twice", twice)
	one := of(t, el(4))
	shows(t, one.meld(t, one), "(4:0 (4:0))")
	shows(t, one, "(4:0)")
	two := of(t, els(4, 6)...)
	shows(t, two.meld(t, two), "(4:0 (4:0 (6:0)) (6:0))")
	m := meter.New()
	two.heap.Meld(m, two.heap)
	counted(t, "Meld with itself, levelled twice", m, steps{3, 3})
	shows(t, two, "(6:0) (4:0)")
	// Trees of a heap that it shares with one that came of it are melded as those of any other.
	most := p.pop(t)
	for _, q := range []pair[api.Elem]{p.meld(t, most), most.meld(t, p), twice.meld(t, p), p.insert(t, el(0)).meld(t, p)} {
		holds(t, "melded with what came of it", q.heap, q.want)
		emptied(t, "melded with what came of it", q)
	}
	shows(t, p, "(1:0 +3:0 (2:0))")
}

// P9.1, P9.2, P9.3: every way to put in up to 6 elements, and to take them out again.
func TestAllSmall(t *testing.T) {
	for n := range 7 {
		for code := range 1 << (2 * n) {
			var l []api.Elem
			for i := range n {
				l = append(l, el(int64(code>>(2*i)&3)))
			}
			p := of(t, l...)
			holds(t, "Of a few", p.heap, p.want)
			if n == 6 && code%17 != 0 {
				continue
			}
			emptied(t, "a few", p)
			for i := range n + 1 {
				q := of(t, l[:i]...).meld(t, of(t, l[i:]...))
				holds(t, "Meld of a few", q.heap, q.want)
			}
		}
	}
}

// P9.1, P9.2, P9.3: a heap of each size melded with one of each size, and popped.
func TestAllSizes(t *testing.T) {
	var heaps []pair[api.Elem]
	for n := range 24 {
		heaps = append(heaps, of(t, some(n)...))
	}
	for _, h := range heaps {
		for _, o := range heaps {
			p := h.meld(t, o)
			holds(t, "melded", p.heap, p.want)
			q := p.pop(t).insert(t, el(5)).pop(t)
			holds(t, "melded, popped, put in and popped", q.heap, q.want)
		}
		emptied(t, "melded with others", h)
	}
}

// versions makes heaps of heaps, and fails unless each is what it has to be, when it is made and at the end.
func versions[T thing](t *testing.T, rounds int, x func(n int) T) []pair[T] {
	t.Helper()
	all := []pair[T]{{}, of(t, x(0)), of(t, x(1), x(2)), of(t, x(1), x(2), x(3))}
	for n := range rounds {
		a, b := all[n*7919%len(all)], all[n*104729%len(all)]
		made := []pair[T]{a.insert(t, x(n)), a.insert(t, x(n+3)).insert(t, x(n)), a.meld(t, b), b.meld(t, a), a.meld(t, a), a.pop(t), b.pop(t), b.insert(t, x(n+1)), of(t, x(n), x(n+2), x(n+5))}
		for _, p := range made {
			holds(t, "just made", p.heap, p.want)
			// Heaps that are melded with themselves would double without end.
			if p.heap.Size() <= 60 {
				all = append(all, p)
			}
		}
		holds(t, "what it came of", a.heap, a.want)
		holds(t, "the other one", b.heap, b.want)
	}
	for i, p := range all {
		if i%7 == 0 {
			emptied(t, "at the end", p)
		}
	}
	for _, p := range all {
		holds(t, "at the end", p.heap, p.want)
	}
	return all
}

// P9.3: whatever is done with heaps from which others were made, each stays as it is, and all that is in it can be taken out.
func TestVersionsStay(t *testing.T) {
	elements := []func(n int) api.Elem{
		func(n int) api.Elem { return api.Elem{P: int64(n*31%11) - 5, Id: int64(n % 3)} },
		func(n int) api.Elem { return el(int64(n * 17 % 4)) },
		func(n int) api.Elem { return el(int64(-n)) },
		func(n int) api.Elem { return api.Elem{P: int64(n), Id: int64(-n)} },
		func(n int) api.Elem { return edges()[n*13%28] },
	}
	for _, x := range elements {
		versions(t, 120, x)
	}
	versions(t, 120, func(n int) named { return named{int64(n * 7 % 3), strconv.Itoa(n)} })
	versions(t, 120, func(n int) named { return named{4, strconv.Itoa(n % 50)} })
	versions(t, 60, func(n int) *box { return &box{el(int64(n % 9))} })
}

// P9.1, P9.2: one meter counts all calls together, and Size, Show and All take no step.
func TestStepsTogether(t *testing.T) {
	m := meter.New()
	a := skew.Of(m, els(2, 1, 3)...)
	counted(t, "Of", m, steps{2, 4})
	b := a.Insert(m, el(0))
	counted(t, "and Insert of a leaf", m, steps{2, 5})
	c := b.Insert(m, el(5))
	counted(t, "and of another one", m, steps{2, 6})
	d := c.Insert(m, el(4))
	counted(t, "and Insert by a skew link", m, steps{4, 8})
	e := d.Meld(m, skew.Of(nil, els(6, 7)...))
	counted(t, "and Meld", m, steps{6, 10})
	if got := e.Show(); got != "(6:0 (7:0)) (0:0 +4:0 (1:0 +3:0 (2:0)) (5:0))" {
		t.Errorf("Show() = %s", got)
	}
	f, _ := e.Pop(m)
	// The kids of ranks 0 and 1 meld with the tree of rank 1, and then 4:0 is put in as a leaf.
	counted(t, "and Pop", m, steps{8, 12})
	if got := f.Show(); got != "(4:0) (5:0) (1:0 +3:0 (6:0 (7:0)) (2:0))" {
		t.Errorf("Show() = %s", got)
	}
	for _, h := range []skew.Heap[api.Elem]{{}, a, b, c, d, e, f} {
		h.Size()
		h.All()
		if h.Show() == "" {
			t.Error("Show() is empty")
		}
	}
	counted(t, "and asks", m, steps{8, 12})
	for _, h := range []skew.Heap[api.Elem]{{}, a, b, c, d, e, f} {
		h.Min(m)
	}
	counted(t, "and Min", m, steps{15, 12})
	if got := m.Steps(); got != 27 {
		t.Errorf("Steps() = %d", got)
	}
}

// P9.1, P9.2, P9.3: many things, in an order of their own, come out in order, by as many steps as the model's.
func TestMany(t *testing.T) {
	const n = 1 << 12
	var l []api.Elem
	for i := range int64(n) {
		l = append(l, api.Elem{P: i * 2741 % 4099 % 511, Id: i % 5})
	}
	p := of(t, l...)
	holds(t, "many", p.heap, p.want)
	half := of(t, l[:n/2]...).meld(t, of(t, l[n/2:]...))
	holds(t, "many, melded", half.heap, half.want)
	slices.SortFunc(l, order)
	for _, q := range []pair[api.Elem]{p, half} {
		var s steps
		m := meter.New()
		h, want := q.heap, q.want
		for i, x := range l {
			was := m.Steps()
			if got, is := h.Min(m); got != x || !is || h.Size() != n-i {
				t.Fatalf("%d popped: Min() = %v, %v, want %v; Size() = %d", i, got, is, x, h.Size())
			}
			// Min tells how many trees there are: a comparison for each but the first one.
			if trees := m.Since(was) + 1; trees > bits.Len(uint(n-i))+1 {
				t.Fatalf("%d popped: %d trees of %d things", i, trees, n-i)
			}
			h, _ = h.Pop(m)
			want.least(&s)
			want = want.pop(&s)
		}
		counted(t, "Min and Pop of many", m, s)
		if h.Size() != 0 || len(want) != 0 {
			t.Errorf("all popped: Size() = %d", h.Size())
		}
		holds(t, "many, and popped", q.heap, q.want)
	}
}

// P9.1, P9.2, P9.3: of 2^31 elements too, which are one heap melded with itself again and again, all is told.
func TestTwiceAndTwice(t *testing.T) {
	for _, l := range [][]api.Elem{els(2, 1, 3), els(2, 1), els(9, 1, 8, 2, 7)} {
		h, want := skew.Of(nil, l...), modelOf(new(steps), l...)
		var s steps
		m := meter.New()
		size := len(l)
		for size <= 1<<30 {
			h, want = h.Meld(m, h), want.meld(&s, want)
			size *= 2
			want.least(&s)
			if x, is := h.Min(m); x != el(1) || !is || h.Size() != size {
				t.Fatalf("Min() = %v, %v, Size() = %d, want %d", x, is, h.Size(), size)
			}
		}
		counted(t, "Meld with itself", m, s)
		for i := range 5000 {
			h, _ = h.Pop(m)
			want = want.pop(&s)
			root := want[want.least(&s)].root
			if x, is := h.Min(m); x != root || !is || h.Size() != size-1-i {
				t.Fatalf("Min() = %v, %v, Size() = %d", x, is, h.Size())
			}
		}
		h = h.Insert(m, el(0)).Insert(m, el(9)).Insert(m, el(4))
		want = want.insert(&s, el(0)).insert(&s, el(9)).insert(&s, el(4))
		counted(t, "and Pop and Insert", m, s)
		if x, is := h.Min(nil); x != el(0) || !is || h.Size() != size-4997 {
			t.Errorf("Min() = %v, %v, Size() = %d", x, is, h.Size())
		}
		if len(want) > bits.Len(uint(size))+1 {
			t.Errorf("%d trees of %d things", len(want), size)
		}
	}
}
