package rank_test

import (
	"math"
	"slices"
	"strconv"
	"strings"
	"testing"

	"slagheap/api"
	"slagheap/meter"
	"slagheap/rank"
)

// named is a thing of which several may have one Key, and be told apart all the same.
type named struct {
	p    int64
	name string
}

func (n named) Key() api.Elem { return api.Elem{P: n.p} }

// box is a thing whose Key may be changed, and fails of nil.
type box struct{ e api.Elem }

func (b *box) Key() api.Elem { return b.e }

// down is a thing that is in order the other way round.
type down int16

func (d down) Key() api.Elem { return api.Elem{P: -int64(d), Id: 7} }

// failing is a thing that tells no Key.
type failing struct{ n int }

func (f failing) Key() api.Elem { panic(f.n) }

// thing is what the tests put into trees.
type thing interface {
	comparable
	rank.Keyed
}

// model is a tree as the document tells it, written without the package's own calls.
type model[T thing] struct {
	root   T
	beside []T
	rank   int
	kids   []*model[T]
}

// less is the order of elements, by what the document says of it.
func less(a, b api.Elem) bool { return a.P < b.P || a.P == b.P && a.Id < b.Id }

// text is an element's text.
func text(e api.Elem) string {
	return strconv.FormatInt(e.P, 10) + ":" + strconv.FormatInt(e.Id, 10)
}

func (k *model[T]) all() []T {
	if k == nil {
		return nil
	}
	l := slices.Concat([]T{k.root}, k.beside)
	for _, kid := range k.kids {
		l = append(l, kid.all()...)
	}
	return l
}

func (k *model[T]) show() string {
	if k == nil {
		return "."
	}
	s := "(" + text(k.root.Key())
	for _, x := range k.beside {
		s += " +" + text(x.Key())
	}
	for _, kid := range k.kids {
		s += " " + kid.show()
	}
	return s + ")"
}

func (k *model[T]) right() bool {
	if k == nil {
		return true
	}
	if len(k.kids) != k.rank || len(k.beside) > k.rank {
		return false
	}
	for _, x := range k.beside {
		if less(x.Key(), k.root.Key()) {
			return false
		}
	}
	for i, kid := range k.kids {
		if kid.rank != k.rank-1-i || !kid.right() || less(kid.root.Key(), k.root.Key()) {
			return false
		}
	}
	return true
}

// pair is a tree, and what it has to be for ever.
type pair[T thing] struct {
	tree *rank.Tree[T]
	want *model[T]
}

// counted fails, unless so many comparisons and things made were counted since the meter was new.
func counted(t *testing.T, what string, m *meter.Meter, compared, made int) {
	t.Helper()
	if c, n := m.Split(); c != compared || n != made {
		t.Fatalf("%s: %d comparisons, %d made, want %d, %d", what, c, n, compared, made)
	}
}

// leaf is Leaf by a meter of its own, and what it has to be.
func leaf[T thing](t *testing.T, x T) pair[T] {
	t.Helper()
	m := meter.New()
	tree := rank.Leaf(m, x)
	counted(t, "Leaf", m, 0, 1)
	return pair[T]{tree, &model[T]{root: x}}
}

// linked is what Link has to make, and how many comparisons and things made that takes.
func linked[T thing](a, b *model[T]) (*model[T], int, int) {
	if a == nil {
		return b, 0, 0
	}
	if b == nil {
		return a, 0, 0
	}
	winner, loser := a, b
	if less(b.root.Key(), a.root.Key()) {
		winner, loser = b, a
	}
	kids := slices.Concat([]*model[T]{loser}, winner.kids)
	return &model[T]{winner.root, winner.beside, winner.rank + 1, kids}, 1, 1
}

// link is Link by a meter of its own, and what it has to be.
func link[T thing](t *testing.T, a, b pair[T]) pair[T] {
	t.Helper()
	m := meter.New()
	tree := rank.Link(m, a.tree, b.tree)
	want, compared, made := linked(a.want, b.want)
	counted(t, "Link", m, compared, made)
	return pair[T]{tree, want}
}

// skewed is what Skew has to make, and how many comparisons and things made that takes.
func skewed[T thing](x T, a, b *model[T]) (*model[T], int, int) {
	k, compared, made := linked(a, b)
	if k == nil {
		return &model[T]{root: x}, 0, 1
	}
	root, other := x, k.root
	if less(k.root.Key(), x.Key()) {
		root, other = k.root, x
	}
	beside := slices.Concat([]T{other}, k.beside)
	return &model[T]{root, beside, k.rank, k.kids}, compared + 1, made + 1
}

// skew is Skew by a meter of its own, and what it has to be.
func skew[T thing](t *testing.T, x T, a, b pair[T]) pair[T] {
	t.Helper()
	m := meter.New()
	tree := rank.Skew(m, x, a.tree, b.tree)
	want, compared, made := skewed(x, a.want, b.want)
	counted(t, "Skew", m, compared, made)
	return pair[T]{tree, want}
}

// holds fails, unless all that a tree tells is that it is just this one.
func holds[T thing](t *testing.T, what string, tree *rank.Tree[T], want *model[T]) {
	t.Helper()
	if (tree == nil) != (want == nil) {
		t.Fatalf("%s: a tree: %v, want %v", what, tree != nil, want != nil)
	}
	top := model[T]{rank: -1}
	if want != nil {
		top = *want
	}
	if got := tree.Rank(); got != top.rank {
		t.Fatalf("%s: Rank() = %d, want %d", what, got, top.rank)
	}
	if got, is := tree.Root(); got != top.root || is != (want != nil) {
		t.Fatalf("%s: Root() = %v, %v, want %v, %v", what, got, is, top.root, want != nil)
	}
	if got := tree.Beside(); !slices.Equal(got, top.beside) {
		t.Fatalf("%s: Beside() = %v, want %v", what, got, top.beside)
	}
	if got := tree.All(); !slices.Equal(got, want.all()) {
		t.Fatalf("%s: All() = %v, want %v", what, got, want.all())
	}
	if got := tree.Size(); got != len(want.all()) {
		t.Fatalf("%s: Size() = %d, want %d", what, got, len(want.all()))
	}
	if got := tree.Show(); got != want.show() {
		t.Fatalf("%s: Show() = %s, want %s", what, got, want.show())
	}
	if got := tree.Right(); got != want.right() {
		t.Fatalf("%s: Right() = %v of %s", what, got, want.show())
	}
	kids := tree.Kids()
	if len(kids) != len(top.kids) {
		t.Fatalf("%s: %d Kids(), want %d", what, len(kids), len(top.kids))
	}
	for i, kid := range kids {
		holds(t, what+", a kid", kid, top.kids[i])
	}
}

// shows fails, unless a tree's text, and whether it is right, are these, written out.
func shows[T rank.Keyed](t *testing.T, tree *rank.Tree[T], want string, right bool) {
	t.Helper()
	if got := tree.Show(); got != want {
		t.Errorf("Show() = %s, want %s", got, want)
	}
	if got := tree.Right(); got != right {
		t.Errorf("Right() = %v of %s", got, want)
	}
}

// el is the element p:0.
func el(p int64) api.Elem { return api.Elem{P: p} }

// lf is a leaf of p:0, that no meter counts.
func lf(p int64) *rank.Tree[api.Elem] { return rank.Leaf(nil, el(p)) }

// P5.1, P5.3: Link of the leaves 2:0 and 1:0: (1:0 (2:0)).
func TestExample(t *testing.T) {
	m := meter.New()
	a, b := rank.Leaf(m, el(2)), rank.Leaf(m, el(1))
	counted(t, "two leaves", m, 0, 2)
	tree := rank.Link(m, a, b)
	counted(t, "two leaves, linked", m, 1, 3)
	shows(t, tree, "(1:0 (2:0))", true)
	shows(t, a, "(2:0)", true)
	shows(t, b, "(1:0)", true)
}

// P5.1, P5.3: a leaf has its root, and nothing else; it is one thing made.
func TestLeaf(t *testing.T) {
	for _, e := range []api.Elem{{}, {P: -5, Id: 3}, {P: math.MinInt64, Id: math.MaxInt64}, {P: math.MaxInt64, Id: math.MinInt64}} {
		p := leaf(t, e)
		holds(t, "a leaf", p.tree, p.want)
		shows(t, p.tree, "("+text(e)+")", true)
	}
	m := meter.New()
	for i := range 10 {
		rank.Leaf(m, named{p: int64(i % 2)})
		counted(t, "leaves", m, 0, i+1)
	}
}

// P5.3, P5.4: nil is no tree, whatever it is asked.
func TestNil(t *testing.T) {
	var e *rank.Tree[api.Elem]
	holds(t, "nil", e, nil)
	shows(t, e, ".", true)
	if x, is := e.Root(); x != (api.Elem{}) || is {
		t.Errorf("Root() of nil = %v, %v", x, is)
	}
	if e.Rank() != -1 || e.Size() != 0 || len(e.Beside()) != 0 || len(e.Kids()) != 0 || len(e.All()) != 0 {
		t.Errorf("nil: Rank %d, Size %d, Beside %v, Kids %v, All %v", e.Rank(), e.Size(), e.Beside(), e.Kids(), e.All())
	}
	holds(t, "nil of pointers", (*rank.Tree[*box])(nil), nil)
	holds(t, "nil of interfaces", (*rank.Tree[rank.Keyed])(nil), nil)
	holds(t, "nil of structs", (*rank.Tree[named])(nil), nil)
}

// P5.1: Link of one tree is that, Link of none is none; neither is a step.
func TestLinkOfNil(t *testing.T) {
	var none pair[api.Elem]
	two := link(t, leaf(t, el(2)), leaf(t, el(1)))
	lone := skew(t, el(4), leaf(t, el(3)), none)
	for _, p := range []pair[api.Elem]{none, leaf(t, el(5)), two, lone} {
		ahead, behind := link(t, p, none), link(t, none, p)
		holds(t, "Link, the second one nil", ahead.tree, p.want)
		holds(t, "Link, the first one nil", behind.tree, p.want)
		m := meter.New()
		rank.Link(m, p.tree, nil)
		rank.Link(m, nil, p.tree)
		counted(t, "Link where one is nil", m, 0, 0)
		holds(t, "Link of nil without a meter", rank.Link(nil, p.tree, nil), p.want)
		holds(t, "Link of nil and a tree without a meter", rank.Link(nil, nil, p.tree), p.want)
	}
	if tree := rank.Link[api.Elem](nil, nil, nil); tree != nil {
		t.Errorf("Link of nothing at all = %s", tree.Show())
	}
}

// P5.1: the winner is b if its root stands ahead of a's, else a, also if neither stands ahead.
func TestLinkWinner(t *testing.T) {
	rows := []struct {
		a, b   named
		winner string
	}{
		{named{1, "a"}, named{2, "b"}, "a"},
		{named{2, "a"}, named{1, "b"}, "b"},
		{named{1, "a"}, named{1, "b"}, "a"},
		{named{0, "a"}, named{0, "b"}, "a"},
		{named{math.MinInt64, "a"}, named{math.MaxInt64, "b"}, "a"},
		{named{math.MaxInt64, "a"}, named{math.MinInt64, "b"}, "b"},
	}
	for _, r := range rows {
		p := link(t, leaf(t, r.a), leaf(t, r.b))
		holds(t, "Link of two leaves", p.tree, p.want)
		if x, is := p.tree.Root(); x.name != r.winner || !is {
			t.Errorf("Link of %v and %v: Root() = %v, %v", r.a, r.b, x, is)
		}
		if p.tree.Rank() != 1 || p.tree.Size() != 2 || len(p.tree.Kids()) != 1 || len(p.tree.Beside()) != 0 {
			t.Errorf("Link of %v and %v: %s", r.a, r.b, p.tree.Show())
		}
	}
	// The Id tells, where the P doesn't.
	a, b := rank.Leaf(nil, api.Elem{P: 1, Id: -1}), rank.Leaf(nil, api.Elem{P: 1, Id: -2})
	shows(t, rank.Link(nil, a, b), "(1:-2 (1:-1))", true)
	shows(t, rank.Link(nil, b, a), "(1:-2 (1:-1))", true)
}

// P5.1: the loser is the first kid, the winner's kids stand behind it, and what stands beside the winner stays there.
func TestLinkKids(t *testing.T) {
	a := rank.Link(nil, lf(1), lf(5))
	b := rank.Link(nil, lf(2), lf(3))
	shows(t, rank.Link(nil, a, b), "(1:0 (2:0 (3:0)) (5:0))", true)
	shows(t, rank.Link(nil, b, a), "(1:0 (2:0 (3:0)) (5:0))", true)
	c := rank.Skew(nil, el(6), lf(1), lf(5))
	d := rank.Skew(nil, el(0), lf(2), lf(3))
	shows(t, c, "(1:0 +6:0 (5:0))", true)
	shows(t, d, "(0:0 +2:0 (3:0))", true)
	shows(t, rank.Link(nil, c, d), "(0:0 +2:0 (1:0 +6:0 (5:0)) (3:0))", true)
	shows(t, rank.Link(nil, d, c), "(0:0 +2:0 (1:0 +6:0 (5:0)) (3:0))", true)
	shows(t, rank.Link(nil, c, rank.Link(nil, d, c)), "(0:0 +2:0 (1:0 +6:0 (5:0)) (1:0 +6:0 (5:0)) (3:0))", false)
}

// P5.1: the rank is one more than the winner's, whatever the loser's is.
func TestLinkRank(t *testing.T) {
	high := leaf(t, el(1))
	for i := range 6 {
		high = link(t, high, leaf(t, el(int64(2+i))))
	}
	for _, root := range []int64{0, 9} {
		for _, p := range []pair[api.Elem]{link(t, high, leaf(t, el(root))), link(t, leaf(t, el(root)), high)} {
			holds(t, "Link of unlike ranks", p.tree, p.want)
			want := 7
			if root == 0 {
				want = 1
			}
			if p.tree.Rank() != want || p.tree.Right() {
				t.Errorf("Link of ranks 6 and 0, a leaf of %d: Rank() = %d, Right() = %v", root, p.tree.Rank(), p.tree.Right())
			}
		}
	}
}

// P5.2: Skew of a thing alone is its leaf: a thing made, and no comparison.
func TestSkewOfNil(t *testing.T) {
	m := meter.New()
	tree := rank.Skew(m, el(3), nil, nil)
	counted(t, "Skew of no trees", m, 0, 1)
	holds(t, "Skew of no trees", tree, &model[api.Elem]{root: el(3)})
	holds(t, "Skew of no trees, without a meter", rank.Skew(nil, el(3), nil, nil), &model[api.Elem]{root: el(3)})
}

// P5.2: Skew of one tree is that tree with the thing more: one comparison, one thing made.
func TestSkewOfOneNil(t *testing.T) {
	var none pair[named]
	lone := leaf(t, named{5, "lone"})
	two := link(t, lone, leaf(t, named{6, "kid"}))
	for _, p := range []pair[named]{lone, two, skew(t, named{5, "x"}, two, none)} {
		for _, x := range []named{{4, "ahead"}, {5, "as"}, {6, "behind"}} {
			for _, got := range []pair[named]{skew(t, x, p, none), skew(t, x, none, p)} {
				holds(t, "Skew of one tree", got.tree, got.want)
				if got.tree.Rank() != p.tree.Rank() || got.tree.Size() != p.tree.Size()+1 {
					t.Errorf("Skew of one tree: %s of %s", got.tree.Show(), p.tree.Show())
				}
			}
			m := meter.New()
			rank.Skew(m, x, p.tree, nil)
			counted(t, "Skew, the second one nil", m, 1, 1)
			rank.Skew(m, x, nil, p.tree)
			counted(t, "Skew, the first one nil", m, 2, 2)
			holds(t, "the tree that is skewed", p.tree, p.want)
		}
	}
	// A leaf has no room beside its root.
	shows(t, rank.Skew(nil, el(4), lf(5), nil), "(4:0 +5:0)", false)
	shows(t, rank.Skew(nil, el(6), nil, lf(5)), "(5:0 +6:0)", false)
}

// P5.2: the root is the linked tree's if it stands ahead of x, else x: also if neither stands ahead. Two comparisons, two things made.
func TestSkewRoot(t *testing.T) {
	rows := []struct {
		x, a, b            int64
		root, beside, kids string
	}{
		{3, 1, 2, "a", "x", "b"},
		{3, 2, 1, "b", "x", "a"},
		{0, 1, 2, "x", "a", "b"},
		{0, 2, 1, "x", "b", "a"},
		{1, 1, 2, "x", "a", "b"},
		{1, 2, 1, "x", "b", "a"},
		{2, 1, 2, "a", "x", "b"},
		{2, 2, 1, "b", "x", "a"},
		{1, 1, 1, "x", "a", "b"},
		{2, 1, 1, "a", "x", "b"},
		{0, 1, 1, "x", "a", "b"},
		{math.MaxInt64, math.MinInt64, 0, "a", "x", "b"},
		{math.MinInt64, math.MaxInt64, 0, "x", "b", "a"},
	}
	for _, r := range rows {
		m := meter.New()
		tree := rank.Skew(m, named{r.x, "x"}, rank.Leaf(nil, named{r.a, "a"}), rank.Leaf(nil, named{r.b, "b"}))
		counted(t, "Skew of two", m, 2, 2)
		root, _ := tree.Root()
		beside, kids := tree.Beside(), tree.Kids()
		if len(beside) != 1 || len(kids) != 1 || tree.Rank() != 1 || tree.Size() != 3 || !tree.Right() {
			t.Fatalf("Skew of %d, %d, %d: %s", r.x, r.a, r.b, tree.Show())
		}
		kid, _ := kids[0].Root()
		if root.name != r.root || beside[0].name != r.beside || kid.name != r.kids {
			t.Errorf("Skew of %d, %d, %d: root %s, beside %s, kid %s", r.x, r.a, r.b, root.name, beside[0].name, kid.name)
		}
	}
}

// P5.2, P5.3: things stand beside the root in order of their coming, the last one first; the linked tree's kids stay.
func TestSkewBeside(t *testing.T) {
	var none pair[named]
	p := link(t, link(t, leaf(t, named{5, "a"}), leaf(t, named{5, "b"})), link(t, leaf(t, named{5, "c"}), leaf(t, named{5, "d"})))
	kids := len(p.tree.Kids())
	p = skew(t, named{9, "first"}, p, none)
	p = skew(t, named{3, "second"}, none, p)
	p = skew(t, named{3, "third"}, p, none)
	p = skew(t, named{4, "fourth"}, p, none)
	holds(t, "Skew of Skew", p.tree, p.want)
	root, _ := p.tree.Root()
	var names []string
	for _, x := range p.tree.Beside() {
		names = append(names, x.name)
	}
	if root.name != "third" || strings.Join(names, " ") != "fourth second a first" {
		t.Errorf("root %s, beside it %v", root.name, names)
	}
	if p.tree.Rank() != 2 || len(p.tree.Kids()) != kids || p.tree.Size() != 8 {
		t.Errorf("Rank() = %d, %d kids, Size() = %d", p.tree.Rank(), len(p.tree.Kids()), p.tree.Size())
	}
}

// P5.3: All is the root, those beside it, and the kids' All, kid by kid.
func TestAll(t *testing.T) {
	a := rank.Skew(nil, el(9), lf(1), lf(4))
	b := rank.Skew(nil, el(8), lf(2), lf(3))
	tree := rank.Skew(nil, el(7), a, b)
	shows(t, tree, "(1:0 +7:0 +9:0 (2:0 +8:0 (3:0)) (4:0))", true)
	want := []api.Elem{el(1), el(7), el(9), el(2), el(8), el(3), el(4)}
	if got := tree.All(); !slices.Equal(got, want) {
		t.Errorf("All() = %v, want %v", got, want)
	}
	if got := tree.Beside(); !slices.Equal(got, []api.Elem{el(7), el(9)}) {
		t.Errorf("Beside() = %v", got)
	}
	if got := tree.Kids(); len(got) != 2 || got[0].Show() != "(2:0 +8:0 (3:0))" || got[1].Show() != "(4:0)" {
		t.Errorf("%d Kids() of %s", len(got), tree.Show())
	}
	if tree.Size() != 7 || tree.Rank() != 2 {
		t.Errorf("Size() = %d, Rank() = %d", tree.Size(), tree.Rank())
	}
}

// P5.3: texts are those of the Keys, whatever the things are.
func TestShow(t *testing.T) {
	low, high := api.Elem{P: math.MinInt64, Id: math.MaxInt64}, api.Elem{P: math.MaxInt64, Id: math.MinInt64}
	tree := rank.Skew(nil, api.Elem{P: -1, Id: -2}, rank.Leaf(nil, high), rank.Leaf(nil, low))
	shows(t, tree, "(-9223372036854775808:9223372036854775807 +-1:-2 (9223372036854775807:-9223372036854775808))", true)
	shows(t, rank.Link(nil, rank.Leaf(nil, down(-3)), rank.Leaf(nil, down(3))), "(-3:7 (3:7))", true)
	boxes := rank.Link(nil, rank.Leaf(nil, &box{el(4)}), rank.Leaf(nil, &box{el(-4)}))
	shows(t, boxes, "(-4:0 (4:0))", true)
}

// links is a tree of 2^r things that are p:0, by Links alone.
func links(r int, p int64) *rank.Tree[api.Elem] {
	if r == 0 {
		return lf(p)
	}
	return rank.Link(nil, links(r-1, p), links(r-1, p))
}

// P5.4: these trees are right.
func TestRight(t *testing.T) {
	full := links(3, 5)
	for i := range 3 {
		shows(t, full, full.Show(), true)
		full = rank.Skew(nil, el(int64(5+i)), full, nil)
	}
	shows(t, full, full.Show(), true)
	for r := range 9 {
		if got := links(r, 1); !got.Right() || got.Rank() != r || got.Size() != 1<<r {
			t.Errorf("a tree of rank %d: Right() = %v, Rank() = %d, Size() = %d", r, got.Right(), got.Rank(), got.Size())
		}
	}
}

// P5.4: as many things as the rank may stand beside a root, and not one more, at any depth.
func TestRightBeside(t *testing.T) {
	for r := range 5 {
		full := links(r, 5)
		for i := range r + 3 {
			if got := full.Right(); got != (i <= r) {
				t.Errorf("rank %d, %d beside: Right() = %v", r, i, got)
			}
			if got := rank.Link(nil, full, links(r, 0)).Right(); got != (i <= r) {
				t.Errorf("rank %d, %d beside a kid of that rank: Right() = %v", r, i, got)
			}
			// The winner's rank is one more than it was: so there is room for one more.
			if got := rank.Link(nil, links(r, 9), full).Right(); got != (i <= r+1) {
				t.Errorf("rank %d, %d beside the root, linked: Right() = %v", r, i, got)
			}
			full = rank.Skew(nil, el(6), full, nil)
		}
	}
}

// P5.4: a tree of which a kid has another rank, or isn't right, isn't right.
func TestRightKids(t *testing.T) {
	for a := range 5 {
		for b := range 5 {
			winner := rank.Link(nil, links(a, 1), links(b, 2))
			loser := rank.Link(nil, links(a, 2), links(b, 1))
			if winner.Right() != (a == b) || loser.Right() != (a == b) {
				t.Errorf("ranks %d and %d: Right() = %v, %v", a, b, winner.Right(), loser.Right())
			}
		}
	}
	// Ranks that go down, and don't begin at once or don't end at 0.
	bad := rank.Link(nil, links(0, 1), links(1, 2))
	shows(t, bad, "(1:0 (2:0 (2:0)))", false)
	shows(t, rank.Link(nil, bad, lf(3)), "(1:0 (3:0) (2:0 (2:0)))", false)
	// Of the right rank, with a kid of a kid that isn't so.
	deep := rank.Link(nil, rank.Link(nil, rank.Link(nil, lf(1), lf(1)), lf(1)), links(2, 0))
	shows(t, deep, "(0:0 (1:0 (1:0) (1:0)) (0:0 (0:0)) (0:0))", false)
	odd := rank.Link(nil, rank.Skew(nil, el(3), lf(2), nil), lf(1))
	shows(t, rank.Link(nil, odd, links(1, 0)), "(0:0 (1:0 (2:0 +3:0)) (0:0))", false)
	shows(t, rank.Link(nil, odd, links(1, 9)), "(1:0 (9:0 (9:0)) (2:0 +3:0))", false)
}

// P5.4: a tree isn't right of which a thing stands ahead that is beside its root, or a kid's root, wherever that is.
func TestRightOrder(t *testing.T) {
	for _, changed := range []int{1, 2, 3, 4, 5, 6, 7} {
		boxes := make([]*box, 8)
		leaves := make([]*rank.Tree[*box], 8)
		for i := range boxes {
			boxes[i] = &box{el(int64(10 * i))}
			leaves[i] = rank.Leaf(nil, boxes[i])
		}
		pairs := rank.Link(nil, rank.Link(nil, leaves[0], leaves[1]), rank.Link(nil, leaves[2], leaves[3]))
		tree := rank.Skew(nil, boxes[5], rank.Skew(nil, boxes[4], pairs, nil), nil)
		other := rank.Link(nil, rank.Link(nil, leaves[6], leaves[7]), nil)
		if !tree.Right() || !other.Right() {
			t.Fatalf("not right ahead of a change: %s %s", tree.Show(), other.Show())
		}
		boxes[changed].e = el(-1)
		if got, otherGot := tree.Right(), other.Right(); got != (changed > 5) || otherGot != (changed != 7) {
			t.Errorf("%d stands ahead: Right() = %v of %s, %v of %s", changed, got, tree.Show(), otherGot, other.Show())
		}
		// What stands as the root does isn't ahead of it.
		boxes[changed].e = el(0)
		boxes[2].e, boxes[6].e = el(0), el(0)
		if !tree.Right() || !other.Right() {
			t.Errorf("%d stands as the root: not right: %s %s", changed, tree.Show(), other.Show())
		}
	}
}

// P5.5: Link and Skew of two right trees of one rank are right, whichever root wins.
func TestRightStays(t *testing.T) {
	first := []pair[api.Elem]{leaf(t, el(1)), leaf(t, el(2)), leaf(t, el(3))}
	for r := range 4 {
		var next []pair[api.Elem]
		for _, a := range first {
			for _, b := range first {
				made := []pair[api.Elem]{link(t, a, b)}
				for x := range int64(5) {
					made = append(made, skew(t, el(x), a, b))
				}
				for _, p := range made {
					if !p.want.right() || !p.tree.Right() || p.tree.Rank() != r+1 {
						t.Fatalf("not right: %s of %s and %s", p.tree.Show(), a.tree.Show(), b.tree.Show())
					}
					holds(t, "made of two right ones", p.tree, p.want)
				}
				next = append(next, made...)
			}
		}
		first = nil
		for i := range 5 {
			first = append(first, next[i*7%len(next)], next[len(next)-1-i*11%len(next)])
		}
	}
}

// history makes trees of trees, and fails unless each is what it has to be, when it is made and at the end.
func history[T thing](t *testing.T, rounds int, x func(n int) T) {
	t.Helper()
	all := []pair[T]{{}, leaf(t, x(0)), leaf(t, x(1)), leaf(t, x(2))}
	for n := range rounds {
		a, b := all[n*7919%len(all)], all[n*104729%len(all)]
		made := []pair[T]{leaf(t, x(n)), link(t, a, b), link(t, b, a), link(t, a, a), skew(t, x(n), a, b), skew(t, x(n+1), b, a), skew(t, x(n), a, a)}
		for _, p := range made {
			holds(t, "just made", p.tree, p.want)
			// Trees that are linked with themselves would double without end.
			if p.tree.Size() <= 60 {
				all = append(all, p)
			}
		}
		spoil(a.tree)
		holds(t, "what it came of", a.tree, a.want)
		holds(t, "the other one", b.tree, b.want)
	}
	for _, p := range all {
		holds(t, "at the end", p.tree, p.want)
	}
}

// spoil writes over all lists that a tree tells, and over all they have room for.
func spoil[T thing](tree *rank.Tree[T]) {
	beside, kids, all := tree.Beside(), tree.Kids(), tree.All()
	clear(beside[:cap(beside)])
	clear(kids[:cap(kids)])
	clear(all[:cap(all)])
}

// P5.1, P5.2, P5.5: whatever is made of trees, of things of any type, each stays as it is.
func TestTreesStay(t *testing.T) {
	history(t, 120, func(n int) api.Elem { return api.Elem{P: int64(n*31%11) - 5, Id: int64(n % 3)} })
	history(t, 120, func(n int) named { return named{int64(n * 17 % 5), strconv.Itoa(n)} })
	history(t, 120, func(n int) *box { return &box{api.Elem{P: int64(n * 13 % 7), Id: int64(-n)}} })
	history(t, 120, func(n int) down { return down(n*29%13 - 6) })
	history(t, 120, func(n int) rank.Keyed {
		if n%2 == 0 {
			return down(n % 9)
		}
		return named{int64(n % 5), "of several types"}
	})
}

// P5.3: what Beside, Kids and All tell is new memory, each time.
func TestAnswersInNewMemory(t *testing.T) {
	var none pair[api.Elem]
	low := skew(t, el(7), skew(t, el(8), link(t, leaf(t, el(1)), leaf(t, el(4))), none), none)
	high := skew(t, el(9), link(t, low, leaf(t, el(6))), none)
	for _, p := range []pair[api.Elem]{leaf(t, el(1)), low, high} {
		beside, kids, all := p.tree.Beside(), p.tree.Kids(), p.tree.All()
		spoil(p.tree)
		if !slices.Equal(beside, p.want.beside) || !slices.Equal(all, p.want.all()) || slices.Contains(kids, nil) {
			t.Fatalf("two answers share memory: %v, %v, %v", beside, kids, all)
		}
		for i := range kids {
			kids[i] = lf(77)
		}
		for i := range beside {
			beside[i] = el(77)
		}
		for i := range all {
			all[i] = el(77)
		}
		_, _, _ = append(beside[:0], el(78)), append(kids[:0], nil), append(all[:0], el(78))
		for _, q := range []pair[api.Elem]{p, low, high, skew(t, el(5), p, low), link(t, p, high)} {
			holds(t, "behind changes of what was told", q.tree, q.want)
		}
	}
}

// P5.1, P5.2: one meter counts all calls together, and what is asked of a tree is no step.
func TestStepsTogether(t *testing.T) {
	m := meter.New()
	a, b := rank.Leaf(m, el(1)), rank.Leaf(m, el(2))
	two := rank.Link(m, a, b)
	three := rank.Skew(m, el(3), a, b)
	counted(t, "Leaf, Leaf, Link, Skew", m, 3, 5)
	six := rank.Skew(m, el(4), two, three)
	counted(t, "and Skew of these", m, 5, 7)
	for _, tree := range []*rank.Tree[api.Elem]{nil, a, two, three, six} {
		asked(tree)
	}
	counted(t, "and asks", m, 5, 7)
	if got := m.Steps(); got != 12 {
		t.Errorf("Steps() = %d", got)
	}
}

// P5.1, P5.2: without a meter the same trees are made.
func TestWithoutMeter(t *testing.T) {
	for _, x := range []named{{1, "x"}, {2, "x"}, {3, "x"}} {
		for _, y := range []named{{1, "y"}, {2, "y"}, {3, "y"}} {
			a, b := leaf(t, x), leaf(t, y)
			holds(t, "Leaf", rank.Leaf(nil, x), a.want)
			holds(t, "Link", rank.Link(nil, a.tree, b.tree), link(t, a, b).want)
			holds(t, "Skew", rank.Skew(nil, named{2, "z"}, a.tree, b.tree), skew(t, named{2, "z"}, a, b).want)
		}
	}
}

// asked asks a tree for all it tells.
func asked[T rank.Keyed](tree *rank.Tree[T]) {
	tree.Rank()
	tree.Root()
	tree.Beside()
	tree.Kids()
	tree.Size()
	tree.All()
	tree.Right()
	tree.Show()
}

// Rule 1: no call fails of things that are nil, or whose Keys fail.
func TestThingsThatFail(t *testing.T) {
	bad := []rank.Keyed{nil, (*box)(nil), failing{1}, &box{el(3)}, named{}, down(0)}
	for _, x := range bad {
		for _, y := range bad {
			for _, z := range bad {
				a, b := rank.Leaf(nil, x), rank.Leaf(nil, y)
				asked(a)
				asked(rank.Link(meter.New(), a, b))
				asked(rank.Skew(meter.New(), z, a, b))
				asked(rank.Skew(nil, z, a, nil))
				asked(rank.Skew(nil, z, nil, b))
			}
		}
	}
	none, some := rank.Leaf[*box](nil, nil), rank.Leaf(nil, &box{el(2)})
	asked(rank.Link(nil, none, some))
	asked(rank.Link(nil, some, none))
	asked(rank.Skew(nil, nil, some, none))
}

// Rule 1: a tree that no call made is asked, linked and skewed without failing.
func TestZeroValue(t *testing.T) {
	var zero rank.Tree[api.Elem]
	asked(&zero)
	asked(rank.Link(nil, &zero, lf(1)))
	asked(rank.Link(nil, lf(-1), &zero))
	asked(rank.Skew(nil, el(2), &zero, &zero))
	var boxes rank.Tree[*box]
	asked(&boxes)
	asked(rank.Skew(nil, nil, &boxes, &boxes))
}

// far fails, unless a tree that isn't right tells so many things.
func far(t *testing.T, what string, tree *rank.Tree[api.Elem], n int) {
	t.Helper()
	all := tree.All()
	if len(all) != n || tree.Size() != n || tree.Right() {
		t.Errorf("%s: %d things in all, Size() = %d, Right() = %v", what, len(all), tree.Size(), tree.Right())
	}
	if got := strings.Count(tree.Show(), ":"); got != n {
		t.Errorf("%s: %d things shown", what, got)
	}
}

// P5.1, P5.2, P5.3: trees that are very deep, or have very many kids, or things beside their roots, are trees as others are.
func TestFar(t *testing.T) {
	const levels, n = 1 << 16, 1 << 13
	deep, wide, full := lf(0), lf(0), lf(0)
	for i := range int64(levels - 1) {
		deep = rank.Link(nil, lf(-1-i), deep)
	}
	for i := range int64(n - 1) {
		wide = rank.Link(nil, wide, lf(1+i))
		full = rank.Skew(nil, el(1+i), full, nil)
	}
	far(t, "deep", deep, levels)
	far(t, "wide", wide, n)
	far(t, "full", full, n)
	if deep.Rank() != 1 || wide.Rank() != n-1 || full.Rank() != 0 || len(wide.Kids()) != n-1 || len(full.Beside()) != n-1 {
		t.Errorf("Rank() = %d, %d, %d; %d kids, %d beside", deep.Rank(), wide.Rank(), full.Rank(), len(wide.Kids()), len(full.Beside()))
	}
}

// P5.3, P5.4: a tree that stands in another one twice has its things twice.
func TestTwice(t *testing.T) {
	many := lf(1)
	for range 16 {
		many = rank.Link(nil, many, many)
	}
	if many.Rank() != 16 || many.Size() != 1<<16 || len(many.All()) != 1<<16 || !many.Right() {
		t.Errorf("Rank() = %d, Size() = %d, %d things in all, Right() = %v", many.Rank(), many.Size(), len(many.All()), many.Right())
	}
}
