package loser_test

import (
	"math"
	"math/bits"
	"slices"
	"strconv"
	"strings"
	"testing"

	"slagheap/api"
	"slagheap/loser"
	"slagheap/meter"
)

// model is a tree as the document tells it, written without the package's own calls; nil is none.
type model struct {
	left bool
	x    api.Elem
	a    *model
	k    int64
	b    *model
	// Trees that share trees have many more elements than can be counted one by one.
	others int
}

// steps is how many comparisons a model takes, and how many things made.
type steps struct{ compared, made int }

// less is how two elements stand, which takes a comparison.
func (s *steps) less(a, b api.Elem) bool {
	s.compared++
	return before(a, b)
}

// node is a tree of two, as it is, which is made.
func (s *steps) node(left bool, x api.Elem, a *model, k int64, b *model) *model {
	s.made++
	return &model{left, x, a, k, b, a.size() + b.size()}
}

// before is the order of elements, by what the document says of it.
func before(a, b api.Elem) bool { return a.P < b.P || a.P == b.P && a.Id < b.Id }

// text is an element's text.
func text(e api.Elem) string {
	return strconv.FormatInt(e.P, 10) + ":" + strconv.FormatInt(e.Id, 10)
}

func (k *model) size() int {
	if k == nil {
		return 0
	}
	return 1 + k.others
}

func (k *model) weight() int { return k.size() + 1 }

func (k *model) deep() int {
	if k == nil {
		return 0
	}
	return 1 + max(k.a.deep(), k.b.deep())
}

// stands tells whether two trees may be below one node as they are.
func stands(a, b *model) bool {
	return a.size()+b.size() < 2 || a.weight() <= 3*b.weight() && b.weight() <= 3*a.weight()
}

func (k *model) even() bool {
	return k == nil || stands(k.a, k.b) && k.a.even() && k.b.even()
}

func (k *model) under(w api.Elem) []api.Elem {
	if k == nil {
		return []api.Elem{w}
	}
	if k.left {
		return slices.Concat(k.a.under(k.x), k.b.under(w))
	}
	return slices.Concat(k.a.under(w), k.b.under(k.x))
}

func (k *model) show() string {
	if k == nil {
		return "."
	}
	side := "R("
	if k.left {
		side = "L("
	}
	return side + text(k.x) + " " + k.a.show() + " " + strconv.FormatInt(k.k, 10) + " " + k.b.show() + ")"
}

// turn is a row of the document's tables: what is turned, what it is then, and, where two losers meet, what it is if y stands ahead of x.
type turn struct{ what, then, ahead string }

// turnsLeft is the table 'turned left', word for word.
var turnsLeft = []turn{
	{"L(x, a, k, L(y, b, j, c))", "L(x, R(y, a, k, b), j, c)", "L(y, L(x, a, k, b), j, c)"},
	{"L(x, a, k, R(y, b, j, c))", "R(y, L(x, a, k, b), j, c)", ""},
	{"R(x, a, k, L(y, b, j, c))", "R(x, R(y, a, k, b), j, c)", ""},
	{"R(x, a, k, R(y, b, j, c))", "R(y, R(x, a, k, b), j, c)", ""},
}

// turnsRight is the table 'turned right', word for word.
var turnsRight = []turn{
	{"L(x, L(y, a, j, b), k, c)", "L(y, a, j, L(x, b, k, c))", ""},
	{"L(x, R(y, a, j, b), k, c)", "L(x, a, j, L(y, b, k, c))", ""},
	{"R(x, L(y, a, j, b), k, c)", "L(y, a, j, R(x, b, k, c))", ""},
	{"R(x, R(y, a, j, b), k, c)", "R(x, a, j, L(y, b, k, c))", "R(y, a, j, R(x, b, k, c))"},
}

// letters is what each letter of a row stands for.
type letters struct {
	elems map[byte]api.Elem
	keys  map[byte]int64
	trees map[byte]*model
}

// cut takes so many bytes off a text.
func cut(s *string, n int) string {
	head := (*s)[:n]
	*s = (*s)[n:]
	return head
}

// match reads a tree off a row's text, and tells whether k is such a one; so, its letters are known.
func (l letters) match(s *string, k *model) bool {
	head := cut(s, 1)[0]
	if head != 'L' && head != 'R' {
		l.trees[head] = k
		return true
	}
	if k == nil || k.left != (head == 'L') {
		return false
	}
	cut(s, 1)
	l.elems[cut(s, 1)[0]] = k.x
	cut(s, 2)
	if !l.match(s, k.a) {
		return false
	}
	cut(s, 2)
	l.keys[cut(s, 1)[0]] = k.k
	cut(s, 2)
	is := l.match(s, k.b)
	cut(s, 1)
	return is
}

// build reads a tree off a row's text, and makes it of what the letters stand for.
func (l letters) build(s *steps, row *string) *model {
	head := cut(row, 1)[0]
	if head != 'L' && head != 'R' {
		return l.trees[head]
	}
	cut(row, 1)
	x := l.elems[cut(row, 1)[0]]
	cut(row, 2)
	a := l.build(s, row)
	cut(row, 2)
	k := l.keys[cut(row, 1)[0]]
	cut(row, 2)
	b := l.build(s, row)
	cut(row, 1)
	return s.node(head == 'L', x, a, k, b)
}

// turned is a tree turned by the row that is of it.
func (s *steps) turned(k *model, table []turn) *model {
	for _, r := range table {
		l := letters{map[byte]api.Elem{}, map[byte]int64{}, map[byte]*model{}}
		what, then := r.what, r.then
		if !l.match(&what, k) {
			continue
		}
		if r.ahead != "" && s.less(l.elems['y'], l.elems['x']) {
			then = r.ahead
		}
		return l.build(s, &then)
	}
	panic("no row is of " + k.show())
}

// balance is a tree of two, turned where one is too heavy.
func (s *steps) balance(left bool, x api.Elem, a *model, k int64, b *model) *model {
	if stands(a, b) {
		return s.node(left, x, a, k, b)
	}
	// N isn't made.
	unmade := new(steps)
	if b.weight() > a.weight() {
		if b.a.weight() >= 2*b.b.weight() {
			b = s.turned(b, turnsRight)
		}
		return s.turned(unmade.node(left, x, a, k, b), turnsLeft)
	}
	if a.b.weight() >= 2*a.a.weight() {
		a = s.turned(a, turnsLeft)
	}
	return s.turned(unmade.node(left, x, a, k, b), turnsRight)
}

// pair is a tree, and what it has to be for ever.
type pair struct {
	tree *loser.Tree
	want *model
}

// counted fails, unless so many comparisons and things made were counted since the meter was new.
func counted(t *testing.T, what string, m *meter.Meter, want steps) {
	t.Helper()
	if c, n := m.Split(); c != want.compared || n != want.made {
		t.Fatalf("%s: %d comparisons, %d made, want %d, %d", what, c, n, want.compared, want.made)
	}
}

// node is Node by a meter of its own, and without one.
func node(t *testing.T, left bool, x api.Elem, a pair, k int64, b pair) pair {
	t.Helper()
	m := meter.New()
	p := pair{loser.Node(m, left, x, a.tree, k, b.tree), new(steps).node(left, x, a.want, k, b.want)}
	counted(t, "Node", m, steps{0, 1})
	same(t, "Node without a meter", loser.Node(nil, left, x, a.tree, k, b.tree), p.want)
	return p
}

// balance is Balance by a meter of its own, and without one.
func balance(t *testing.T, left bool, x api.Elem, a pair, k int64, b pair) pair {
	t.Helper()
	var s steps
	m := meter.New()
	p := pair{loser.Balance(m, left, x, a.tree, k, b.tree), s.balance(left, x, a.want, k, b.want)}
	counted(t, "Balance", m, s)
	same(t, "Balance without a meter", loser.Balance(nil, left, x, a.tree, k, b.tree), p.want)
	return p
}

// same fails, unless the parts of a tree, and those of its trees, are those of this one.
func same(t *testing.T, what string, tree *loser.Tree, want *model) {
	t.Helper()
	left, x, a, k, b, is := tree.Parts()
	if is != (want != nil) || is != (tree != nil) {
		t.Fatalf("%s: Parts() of %s: %v", what, want.show(), is)
	}
	if !is {
		if left || x != (api.Elem{}) || a != nil || k != 0 || b != nil {
			t.Fatalf("%s: Parts() of none = %v, %v, %v, %v, %v", what, left, x, a, k, b)
		}
		return
	}
	if left != want.left || x != want.x || k != want.k {
		t.Fatalf("%s: Parts() = %v, %v, %v, want %v, %v, %v", what, left, x, k, want.left, want.x, want.k)
	}
	same(t, what, a, want.a)
	same(t, what, b, want.b)
}

// holds fails, unless all that a tree tells is that it is just this one.
func holds(t *testing.T, what string, p pair) {
	t.Helper()
	same(t, what, p.tree, p.want)
	tells(t, what, p)
}

// tells fails, unless all that a tree tells, but for its parts, is that it is just this one.
func tells(t *testing.T, what string, p pair) {
	t.Helper()
	if got, want := p.tree.Show(), p.want.show(); got != want {
		t.Fatalf("%s: Show() = %s, want %s", what, got, want)
	}
	if got, want := p.tree.Size(), p.want.size(); got != want {
		t.Fatalf("%s: Size() of %s = %d, want %d", what, p.want.show(), got, want)
	}
	if got, want := p.tree.Deep(), p.want.deep(); got != want {
		t.Fatalf("%s: Deep() of %s = %d, want %d", what, p.want.show(), got, want)
	}
	if got, want := p.tree.Even(), p.want.even(); got != want {
		t.Fatalf("%s: Even() of %s = %v, want %v", what, p.want.show(), got, want)
	}
	for _, w := range []api.Elem{{P: -1, Id: 1}, {P: 1000, Id: 1}} {
		if got, want := p.tree.Under(w), p.want.under(w); !slices.Equal(got, want) {
			t.Fatalf("%s: Under(%v) of %s = %v, want %v", what, w, p.want.show(), got, want)
		}
	}
}

// shows fails, unless a tree is as the document tells it, and its text is this one, written out.
func shows(t *testing.T, what string, p pair, want string) {
	t.Helper()
	if got := p.tree.Show(); got != want {
		t.Errorf("%s: Show() = %s, want %s", what, got, want)
	}
	holds(t, what, p)
}

// until is what stands in a text ahead of a byte; both are taken off.
func until(s *string, end string) string {
	head, rest, _ := strings.Cut(*s, end)
	*s = rest
	return head
}

// number is the number of a text that was written out in a test.
func number(s string) int64 {
	n, err := strconv.ParseInt(s, 10, 64)
	if err != nil {
		panic(err)
	}
	return n
}

// read is the tree whose text a test has written out, node by node.
func read(t *testing.T, s *string) pair {
	t.Helper()
	side := cut(s, 1)
	if side == "." {
		return pair{}
	}
	cut(s, 1)
	x := api.Elem{P: number(until(s, ":")), Id: number(until(s, " "))}
	a := read(t, s)
	cut(s, 1)
	k := number(until(s, " "))
	b := read(t, s)
	cut(s, 1)
	return node(t, side == "L", x, a, k, b)
}

// tree is the tree whose text a test has written out.
func tree(t *testing.T, s string) pair {
	t.Helper()
	p := read(t, &s)
	if s != "" {
		t.Fatalf("%s stands behind a text", s)
	}
	return p
}

// rebalance is Balance of what a tree is made of.
func rebalance(t *testing.T, p pair) pair {
	t.Helper()
	left, x, a, k, b, _ := p.tree.Parts()
	return balance(t, left, x, pair{a, p.want.a}, k, pair{b, p.want.b})
}

// becomes fails, unless Balance of what one tree is made of is the other one, both written out, by so many comparisons and things made, and all are in their places.
func becomes(t *testing.T, was, want string, s steps) {
	t.Helper()
	p := tree(t, was)
	left, x, a, k, b, _ := p.tree.Parts()
	m := meter.New()
	loser.Balance(m, left, x, a, k, b)
	counted(t, "Balance of "+was, m, s)
	q := rebalance(t, p)
	shows(t, "Balance of "+was, q, want)
	placed(t, p, q)
	shows(t, "what was balanced", p, was)
}

// placed fails, unless all elements are in the same places in both trees, whoever won.
func placed(t *testing.T, p, q pair) {
	t.Helper()
	for _, w := range []api.Elem{{}, {P: -5, Id: 3}, {P: 1 << 40}} {
		if was, is := p.tree.Under(w), q.tree.Under(w); !slices.Equal(was, is) {
			t.Fatalf("Under(%v) = %v of %s, %v of %s", w, was, p.tree.Show(), is, q.tree.Show())
		}
	}
}

// el is the element p:0.
func el(p int64) api.Elem { return api.Elem{P: p} }

// sized is an even tree of so many elements, which came from both sides.
func sized(t *testing.T, n int) pair {
	t.Helper()
	if n == 0 {
		return pair{}
	}
	a, b := sized(t, n/2), sized(t, (n-1)/2)
	return node(t, n%3 == 0, api.Elem{P: int64(n * 7 % 5), Id: int64(n)}, a, int64(n), b)
}

// P12.2, P12.3: the chapter's example.
func TestExample(t *testing.T) {
	right := loser.Node(nil, true, el(1), nil, 6, loser.Node(nil, false, el(3), nil, 7, loser.Node(nil, false, el(4), nil, 8, nil)))
	if got := right.Show(); got != "L(1:0 . 6 R(3:0 . 7 R(4:0 . 8 .)))" {
		t.Errorf("Show() = %s", got)
	}
	m := meter.New()
	got := loser.Balance(m, true, el(2), nil, 5, right)
	if got.Show() != "L(1:0 L(2:0 . 5 .) 6 R(3:0 . 7 R(4:0 . 8 .)))" {
		t.Errorf("Show() = %s", got.Show())
	}
	counted(t, "the example", m, steps{1, 2})
	if got.Size() != 4 || got.Deep() != 3 || !got.Even() {
		t.Errorf("Size() = %d, Deep() = %d, Even() = %v", got.Size(), got.Deep(), got.Even())
	}
	if l := got.Under(el(0)); !slices.Equal(l, []api.Elem{el(2), el(1), el(0), el(3), el(4)}) {
		t.Errorf("Under(0:0) = %v", l)
	}
	becomes(t, "L(2:0 . 5 L(1:0 . 6 R(3:0 . 7 R(4:0 . 8 .))))", "L(1:0 L(2:0 . 5 .) 6 R(3:0 . 7 R(4:0 . 8 .)))", steps{1, 2})
}

// P12.1, P12.4: what none tells.
func TestNone(t *testing.T) {
	var none *loser.Tree
	shows(t, "none", pair{none, nil}, ".")
	left, x, a, k, b, is := none.Parts()
	if left || x != (api.Elem{}) || a != nil || k != 0 || b != nil || is {
		t.Errorf("Parts() of none = %v, %v, %v, %v, %v, %v", left, x, a, k, b, is)
	}
	if none.Size() != 0 || none.Deep() != 0 || !none.Even() || none.Show() != "." {
		t.Errorf("none: Size() = %d, Deep() = %d, Even() = %v, Show() = %s", none.Size(), none.Deep(), none.Even(), none.Show())
	}
	if l := none.Under(api.Elem{P: 4, Id: -4}); !slices.Equal(l, []api.Elem{{P: 4, Id: -4}}) {
		t.Errorf("Under(4:-4) of none = %v", l)
	}
	if l := none.Under(api.Elem{}); !slices.Equal(l, []api.Elem{{}}) {
		t.Errorf("Under(0:0) of none = %v", l)
	}
}

// P12.1: a node of no trees, of one and of two, from both sides.
func TestNode(t *testing.T) {
	rows := []struct {
		text       string
		size, deep int
		under      []int64 // when 9:0 won
	}{
		{"L(1:0 . 5 .)", 1, 1, []int64{1, 9}},
		{"R(1:0 . 5 .)", 1, 1, []int64{9, 1}},
		{"L(1:0 L(2:0 . 4 .) 5 .)", 2, 2, []int64{2, 1, 9}},
		{"L(1:0 R(2:0 . 4 .) 5 .)", 2, 2, []int64{1, 2, 9}},
		{"R(1:0 L(2:0 . 4 .) 5 .)", 2, 2, []int64{2, 9, 1}},
		{"R(1:0 R(2:0 . 4 .) 5 .)", 2, 2, []int64{9, 2, 1}},
		{"L(1:0 . 5 L(2:0 . 6 .))", 2, 2, []int64{1, 2, 9}},
		{"L(1:0 . 5 R(2:0 . 6 .))", 2, 2, []int64{1, 9, 2}},
		{"R(1:0 . 5 L(2:0 . 6 .))", 2, 2, []int64{9, 2, 1}},
		{"R(1:0 . 5 R(2:0 . 6 .))", 2, 2, []int64{9, 1, 2}},
		{"L(1:0 L(2:0 . 4 .) 5 R(3:0 . 6 .))", 3, 2, []int64{2, 1, 9, 3}},
		{"R(1:0 L(2:0 . 4 .) 5 R(3:0 . 6 .))", 3, 2, []int64{2, 9, 1, 3}},
		{"L(1:0 R(2:0 . 4 R(4:0 . 8 .)) 5 R(3:0 . 6 .))", 4, 3, []int64{1, 2, 4, 9, 3}},
		{"R(1:0 R(2:0 . 4 .) 5 L(3:0 . 6 L(4:0 . 8 .)))", 4, 3, []int64{9, 2, 3, 4, 1}},
	}
	for _, r := range rows {
		p := tree(t, r.text)
		shows(t, "Node", p, r.text)
		if p.tree.Size() != r.size || p.tree.Deep() != r.deep || !p.tree.Even() {
			t.Errorf("%s: Size() = %d, Deep() = %d, Even() = %v", r.text, p.tree.Size(), p.tree.Deep(), p.tree.Even())
		}
		var under []api.Elem
		for _, x := range r.under {
			under = append(under, el(x))
		}
		if got := p.tree.Under(el(9)); !slices.Equal(got, under) {
			t.Errorf("Under(9:0) of %s = %v, want %v", r.text, got, under)
		}
	}
}

// P12.1: Parts are what was handed to Node, the very trees.
func TestParts(t *testing.T) {
	a, b := loser.Node(nil, true, el(3), nil, 4, nil), loser.Node(nil, false, el(5), nil, 6, nil)
	for _, trees := range [][2]*loser.Tree{{nil, nil}, {a, nil}, {nil, b}, {a, b}, {b, a}, {a, a}} {
		for _, left := range []bool{true, false} {
			for _, x := range []api.Elem{{}, {P: 1}, {Id: 1}, {P: -7, Id: -8}} {
				for _, k := range []int64{0, 1, -1, 77} {
					n := loser.Node(nil, left, x, trees[0], k, trees[1])
					l, y, c, j, d, is := n.Parts()
					if l != left || y != x || c != trees[0] || j != k || d != trees[1] || !is {
						t.Errorf("Parts() of %s = %v, %v, %s, %d, %s, %v", n.Show(), l, y, c.Show(), j, d.Show(), is)
					}
					if n.Size() != 1+c.Size()+d.Size() {
						t.Errorf("Size() of %s = %d", n.Show(), n.Size())
					}
				}
			}
		}
	}
}

// P12.1: a node is made by each Node, whatever it is of; nothing is compared, and it is never turned.
func TestNodeSteps(t *testing.T) {
	m := meter.New()
	var n *loser.Tree
	for i := range 50 {
		n = loser.Node(m, i%3 == 0, el(int64(50-i)), nil, int64(i), n)
		counted(t, "Node", m, steps{0, i + 1})
		if n.Size() != i+1 || n.Deep() != i+1 || n.Even() != (i < 3) {
			t.Errorf("Size() = %d, Deep() = %d, Even() = %v", n.Size(), n.Deep(), n.Even())
		}
	}
	n = loser.Node(m, false, el(0), n, 9, n)
	counted(t, "and Node of a tree, twice", m, steps{0, 51})
	n.Parts()
	n.Size()
	n.Deep()
	n.Even()
	n.Under(el(1))
	if n.Show() == "" {
		t.Error("Show() is empty")
	}
	counted(t, "and asks", m, steps{0, 51})
}

// ends are numbers at both ends of what 64 bits hold, and between.
func ends() []int64 {
	return []int64{math.MinInt64, math.MinInt64 + 1, -10, -1, 0, 1, 10, math.MaxInt64 - 1, math.MaxInt64}
}

// P12.1, P12.2: keys, and elements, at both ends of 64 bits are as others are; keys aren't held against each other.
func TestEnds(t *testing.T) {
	low, high := "-9223372036854775808", "9223372036854775807"
	p := node(t, true, api.Elem{P: math.MinInt64, Id: math.MaxInt64}, pair{}, math.MinInt64, pair{})
	shows(t, "the low end", p, "L("+low+":"+high+" . "+low+" .)")
	p = node(t, false, api.Elem{P: math.MaxInt64, Id: math.MinInt64}, p, math.MaxInt64, pair{})
	shows(t, "the high end", p, "R("+high+":"+low+" L("+low+":"+high+" . "+low+" .) "+high+" .)")
	for _, k := range ends() {
		for _, j := range ends() {
			right := node(t, true, el(1), pair{}, j, sized(t, 2))
			left := node(t, false, el(1), sized(t, 2), j, pair{})
			q := balance(t, true, el(2), pair{}, k, right)
			shows(t, "Balance", q, "L(1:0 L(2:0 . "+strconv.FormatInt(k, 10)+" .) "+strconv.FormatInt(j, 10)+" "+sized(t, 2).tree.Show()+")")
			q = balance(t, false, el(2), left, k, pair{})
			shows(t, "Balance", q, "R(1:0 "+sized(t, 2).tree.Show()+" "+strconv.FormatInt(j, 10)+" R(2:0 . "+strconv.FormatInt(k, 10)+" .))")
		}
	}
	for _, p := range ends() {
		for _, id := range ends() {
			x := api.Elem{P: p, Id: id}
			for _, o := range ends() {
				for _, y := range []api.Elem{{P: o, Id: id}, {P: p, Id: o}, {P: o, Id: o}} {
					holds(t, "Balance", balance(t, true, x, pair{}, 5, node(t, true, y, pair{}, 6, sized(t, 2))))
					holds(t, "Balance", balance(t, false, x, node(t, false, y, sized(t, 2), 6, pair{}), 7, pair{}))
				}
			}
		}
	}
}

// P12.1: Under is in new memory: what is written there turns no tree, and no other answer; and what is balanced is told anew as well.
func TestUnderInNewMemory(t *testing.T) {
	for n := range 40 {
		p := sized(t, n)
		w := el(77)
		first, second := p.tree.Under(w), p.tree.Under(w)
		if len(first) != n+1 {
			t.Fatalf("Under() of %d elements: %d", n, len(first))
		}
		want := slices.Clone(second)
		for i := range first {
			first[i] = api.Elem{P: -99, Id: -99}
		}
		whole := first[:cap(first)]
		for i := range whole {
			whole[i] = api.Elem{P: -99, Id: -99}
		}
		if !slices.Equal(second, want) {
			t.Errorf("Under() shares what it answered: %v", second)
		}
		if got := p.tree.Under(w); !slices.Equal(got, want) {
			t.Errorf("Under() = %v, want %v", got, want)
		}
		holds(t, "behind a write into an answer", p)
	}
}

// P12.1, P12.5: in a tree that was played out, whoever came from the left or from the right, all stand where they did.
func TestUnderOfPlayed(t *testing.T) {
	for n := 1; n < 60; n++ {
		var l []api.Elem
		for i := range n {
			l = append(l, api.Elem{P: int64(i * 37 % 11), Id: int64(i)})
		}
		c := champions(t, l)
		if got := c.tree.tree.Under(c.winner); !slices.Equal(got, l) {
			t.Errorf("Under(%v) = %v, want %v", c.winner, got, l)
		}
		holds(t, "played", c.tree)
	}
}

// champion is who won, and the tree of all that lost.
type champion struct {
	winner api.Elem
	tree   pair
}

// joined is who won of two, who stand one behind the other.
func joined(t *testing.T, c, d champion, k int64) champion {
	t.Helper()
	if before(d.winner, c.winner) {
		return champion{d.winner, balance(t, true, c.winner, c.tree, k, d.tree)}
	}
	return champion{c.winner, balance(t, false, d.winner, c.tree, k, d.tree)}
}

// halves are the two of whom one won, if there are two, and the key between.
func (c champion) halves() (champion, champion, int64) {
	left, x, a, k, b, _ := c.tree.tree.Parts()
	first, second := pair{a, c.tree.want.a}, pair{b, c.tree.want.b}
	if left {
		return champion{x, first}, champion{c.winner, second}, k
	}
	return champion{c.winner, first}, champion{x, second}, k
}

// champions is who won of many.
func champions(t *testing.T, l []api.Elem) champion {
	t.Helper()
	if len(l) == 1 {
		return champion{l[0], pair{}}
	}
	half := len(l) / 2
	return joined(t, champions(t, l[:half]), champions(t, l[half:]), l[half-1].Id)
}

// put is who won with an element more, in a place of its own.
func (c champion) put(t *testing.T, x api.Elem, place int) champion {
	t.Helper()
	if c.tree.tree == nil {
		if place == 0 {
			return joined(t, champion{x, pair{}}, c, x.Id)
		}
		return joined(t, c, champion{x, pair{}}, c.winner.Id)
	}
	first, second, k := c.halves()
	if there := first.tree.want.weight(); place > there {
		return joined(t, first, second.put(t, x, place-there), k)
	}
	return joined(t, first.put(t, x, place), second, k)
}

// taken is who won without the element in a place, if there are two or more.
func (c champion) taken(t *testing.T, place int) champion {
	t.Helper()
	first, second, k := c.halves()
	there := first.tree.want.weight()
	if place >= there {
		if second.tree.want == nil {
			return first
		}
		return joined(t, first, second.taken(t, place-there), k)
	}
	if first.tree.want == nil {
		return second
	}
	return joined(t, first.taken(t, place), second, k)
}

// P12.2: where the sizes are less than 2 together: Node.
func TestBalanceOfFew(t *testing.T) {
	for _, was := range []string{"L(3:0 . 5 .)", "R(3:0 . 5 .)", "L(3:0 L(1:0 . 2 .) 5 .)", "L(3:0 R(1:0 . 2 .) 5 .)", "R(3:0 L(1:0 . 2 .) 5 .)", "R(3:0 R(1:0 . 2 .) 5 .)", "L(3:0 . 5 L(1:0 . 8 .))", "L(3:0 . 5 R(1:0 . 8 .))", "R(3:0 . 5 L(1:0 . 8 .))", "R(3:0 . 5 R(1:0 . 8 .))"} {
		becomes(t, was, was, steps{0, 1})
	}
}

// P12.2: where one tree's weight is just three times the other one's: Node; and one more: a turn.
func TestBalanceAtItsBounds(t *testing.T) {
	rows := []struct{ a, b, made int }{
		{0, 2, 1}, {0, 3, 2}, {1, 5, 1}, {1, 6, 2}, {2, 8, 1}, {2, 9, 2}, {3, 11, 1}, {3, 12, 2}, {9, 29, 1}, {9, 30, 2}, {99, 299, 1}, {99, 300, 2},
		{2, 0, 1}, {3, 0, 2}, {5, 1, 1}, {6, 1, 2}, {8, 2, 1}, {9, 2, 2}, {11, 3, 1}, {12, 3, 2}, {29, 9, 1}, {30, 9, 2}, {299, 99, 1}, {300, 99, 2},
		{0, 0, 1}, {0, 1, 1}, {1, 0, 1}, {1, 1, 1}, {7, 7, 1}, {50, 60, 1},
	}
	for _, r := range rows {
		for _, left := range []bool{true, false} {
			a, b := sized(t, r.a), sized(t, r.b)
			m := meter.New()
			loser.Balance(m, left, el(2), a.tree, 5, b.tree)
			if _, made := m.Split(); made != r.made {
				t.Errorf("Balance of %d and %d elements: %d made, want %d", r.a, r.b, made, r.made)
			}
			p := balance(t, left, el(2), a, 5, b)
			holds(t, "Balance", p)
			plain := node(t, left, el(2), a, 5, b)
			placed(t, plain, p)
			if is := p.tree.Show() == plain.tree.Show(); is != (r.made == 1) {
				t.Errorf("Balance of %d and %d elements: as it was: %v", r.a, r.b, is)
			}
			if plain.tree.Even() != (r.made == 1) {
				t.Errorf("Even() of %d and %d elements = %v", r.a, r.b, plain.tree.Even())
			}
		}
	}
}

// P12.2: trees of all sizes up to a bound, against each other.
func TestBalanceOfAllSizes(t *testing.T) {
	var all []pair
	for n := range 70 {
		all = append(all, sized(t, n))
	}
	for sa, a := range all {
		for sb, b := range all {
			left := (sa+sb)%2 == 0
			p := balance(t, left, api.Elem{P: int64(sa % 5), Id: int64(sb)}, a, 5, b)
			tells(t, "Balance", p)
			if p.tree.Size() != sa+sb+1 {
				t.Errorf("Size() = %d", p.tree.Size())
			}
			placed(t, node(t, left, api.Elem{P: int64(sa % 5), Id: int64(sb)}, a, 5, b), p)
		}
	}
}

// P12.2: b's left tree weighs less than twice its right one: a turn; just twice, or more: two. And the same of a, mirrored.
func TestOnceOrTwice(t *testing.T) {
	rows := []struct{ inner, outer, made int }{
		{0, 2, 2}, {1, 1, 2}, {2, 1, 2}, {3, 1, 4}, {4, 1, 4}, {2, 0, 4}, {3, 0, 4}, {4, 2, 2}, {5, 2, 4}, {6, 2, 4}, {6, 3, 2}, {7, 3, 4}, {8, 3, 4}, {18, 9, 2}, {19, 9, 4}, {20, 9, 4},
		{12, 7, 2}, {14, 7, 2}, {15, 7, 4}, {16, 7, 4}, {0, 30, 2}, {30, 0, 4},
	}
	for _, r := range rows {
		for side := range 4 {
			left, below := side&1 == 0, side&2 == 0
			inner, outer := sized(t, r.inner), sized(t, r.outer)
			right := node(t, below, el(3), inner, 8, outer)
			m := meter.New()
			loser.Balance(m, left, el(2), nil, 5, right.tree)
			if _, made := m.Split(); made != r.made && right.tree.Size() > 2 {
				t.Errorf("turned left, %d inside, %d outside: %d made, want %d", r.inner, r.outer, made, r.made)
			}
			holds(t, "turned left", balance(t, left, el(2), pair{}, 5, right))
			first := node(t, below, el(3), outer, 8, inner)
			m = meter.New()
			loser.Balance(m, left, el(2), first.tree, 9, nil)
			if _, made := m.Split(); made != r.made && first.tree.Size() > 2 {
				t.Errorf("turned right, %d inside, %d outside: %d made, want %d", r.inner, r.outer, made, r.made)
			}
			holds(t, "turned right", balance(t, left, el(2), first, 9, pair{}))
		}
	}
}

// filled writes trees for the letters a, b, c and d of a text: of 1, 2 and 3 elements, and one more of 1.
func filled(s string, letters ...string) string {
	trees := []string{
		"R(10:0 . 10 .)",
		"L(20:0 . 20 R(21:0 . 21 .))",
		"R(30:0 L(31:0 . 31 .) 30 L(32:0 . 32 .))",
		"L(40:0 . 40 .)",
	}
	var pairs []string
	for i, letter := range letters {
		pairs = append(pairs, letter, trees[i])
	}
	return strings.NewReplacer(pairs...).Replace(s)
}

// P12.3: each row of 'turned left'; where two losers meet: x ahead, y ahead, neither, by numbers and by ids.
func TestTurnedLeft(t *testing.T) {
	rows := []struct {
		was, want string
		compared  int
	}{
		{"L(1:0 a 5 L(2:0 b 9 c))", "L(1:0 R(2:0 a 5 b) 9 c)", 1},
		{"L(2:0 a 5 L(1:0 b 9 c))", "L(1:0 L(2:0 a 5 b) 9 c)", 1},
		{"L(1:0 a 5 L(1:0 b 9 c))", "L(1:0 R(1:0 a 5 b) 9 c)", 1},
		{"L(1:2 a 5 L(1:3 b 9 c))", "L(1:2 R(1:3 a 5 b) 9 c)", 1},
		{"L(1:3 a 5 L(1:2 b 9 c))", "L(1:2 L(1:3 a 5 b) 9 c)", 1},
		{"L(1:3 a 5 L(1:3 b 9 c))", "L(1:3 R(1:3 a 5 b) 9 c)", 1},
		{"L(1:3 a 5 L(2:1 b 9 c))", "L(1:3 R(2:1 a 5 b) 9 c)", 1},
		{"L(2:1 a 5 L(1:3 b 9 c))", "L(1:3 L(2:1 a 5 b) 9 c)", 1},
		{"L(-2:1 a 5 L(1:-3 b 9 c))", "L(-2:1 R(1:-3 a 5 b) 9 c)", 1},
		{"L(1:0 a 5 R(2:0 b 9 c))", "R(2:0 L(1:0 a 5 b) 9 c)", 0},
		{"L(2:0 a 5 R(1:0 b 9 c))", "R(1:0 L(2:0 a 5 b) 9 c)", 0},
		{"L(1:0 a 5 R(1:0 b 9 c))", "R(1:0 L(1:0 a 5 b) 9 c)", 0},
		{"R(1:0 a 5 L(2:0 b 9 c))", "R(1:0 R(2:0 a 5 b) 9 c)", 0},
		{"R(2:0 a 5 L(1:0 b 9 c))", "R(2:0 R(1:0 a 5 b) 9 c)", 0},
		{"R(1:0 a 5 L(1:0 b 9 c))", "R(1:0 R(1:0 a 5 b) 9 c)", 0},
		{"R(1:0 a 5 R(2:0 b 9 c))", "R(2:0 R(1:0 a 5 b) 9 c)", 0},
		{"R(2:0 a 5 R(1:0 b 9 c))", "R(1:0 R(2:0 a 5 b) 9 c)", 0},
		{"R(1:0 a 5 R(1:0 b 9 c))", "R(1:0 R(1:0 a 5 b) 9 c)", 0},
	}
	for _, r := range rows {
		becomes(t, filled(r.was, "a", "b", "c"), filled(r.want, "a", "b", "c"), steps{r.compared, 2})
		// The same where there are no trees at the left: . for a, and for b.
		bare := strings.NewReplacer("a", ".", "b", ".")
		becomes(t, filled(bare.Replace(r.was), "d", "e", "c"), filled(bare.Replace(r.want), "d", "e", "c"), steps{r.compared, 2})
	}
}

// P12.3: each row of 'turned right', likewise.
func TestTurnedRight(t *testing.T) {
	rows := []struct {
		was, want string
		compared  int
	}{
		{"L(1:0 L(2:0 a 5 b) 9 c)", "L(2:0 a 5 L(1:0 b 9 c))", 0},
		{"L(2:0 L(1:0 a 5 b) 9 c)", "L(1:0 a 5 L(2:0 b 9 c))", 0},
		{"L(1:0 L(1:0 a 5 b) 9 c)", "L(1:0 a 5 L(1:0 b 9 c))", 0},
		{"L(1:0 R(2:0 a 5 b) 9 c)", "L(1:0 a 5 L(2:0 b 9 c))", 0},
		{"L(2:0 R(1:0 a 5 b) 9 c)", "L(2:0 a 5 L(1:0 b 9 c))", 0},
		{"L(1:0 R(1:0 a 5 b) 9 c)", "L(1:0 a 5 L(1:0 b 9 c))", 0},
		{"R(1:0 L(2:0 a 5 b) 9 c)", "L(2:0 a 5 R(1:0 b 9 c))", 0},
		{"R(2:0 L(1:0 a 5 b) 9 c)", "L(1:0 a 5 R(2:0 b 9 c))", 0},
		{"R(1:0 L(1:0 a 5 b) 9 c)", "L(1:0 a 5 R(1:0 b 9 c))", 0},
		{"R(1:0 R(2:0 a 5 b) 9 c)", "R(1:0 a 5 L(2:0 b 9 c))", 1},
		{"R(2:0 R(1:0 a 5 b) 9 c)", "R(1:0 a 5 R(2:0 b 9 c))", 1},
		{"R(1:0 R(1:0 a 5 b) 9 c)", "R(1:0 a 5 L(1:0 b 9 c))", 1},
		{"R(1:2 R(1:3 a 5 b) 9 c)", "R(1:2 a 5 L(1:3 b 9 c))", 1},
		{"R(1:3 R(1:2 a 5 b) 9 c)", "R(1:2 a 5 R(1:3 b 9 c))", 1},
		{"R(1:3 R(1:3 a 5 b) 9 c)", "R(1:3 a 5 L(1:3 b 9 c))", 1},
		{"R(1:3 R(2:1 a 5 b) 9 c)", "R(1:3 a 5 L(2:1 b 9 c))", 1},
		{"R(2:1 R(1:3 a 5 b) 9 c)", "R(1:3 a 5 R(2:1 b 9 c))", 1},
		{"R(-2:1 R(1:-3 a 5 b) 9 c)", "R(-2:1 a 5 L(1:-3 b 9 c))", 1},
	}
	for _, r := range rows {
		becomes(t, filled(r.was, "c", "b", "a"), filled(r.want, "c", "b", "a"), steps{r.compared, 2})
		bare := strings.NewReplacer("b", ".", "c", ".")
		becomes(t, filled(bare.Replace(r.was), "d", "e", "a"), filled(bare.Replace(r.want), "d", "e", "a"), steps{r.compared, 2})
	}
}

// P12.2, P12.3: b is turned right first, and then all is turned left: four nodes are made, and the comparisons of both turns. (There is one at most: what a turn with a comparison makes came from the side where the other turn has none.)
func TestTurnedRightThenLeft(t *testing.T) {
	rows := []struct {
		was, want string
		compared  int
	}{
		{"L(1:0 a 5 L(2:0 L(3:0 d 7 b) 9 c))", "L(1:0 R(3:0 a 5 d) 7 L(2:0 b 9 c))", 1},
		{"L(3:0 a 5 L(2:0 L(1:0 d 7 b) 9 c))", "L(1:0 L(3:0 a 5 d) 7 L(2:0 b 9 c))", 1},
		{"L(3:0 a 5 L(2:0 L(3:0 d 7 b) 9 c))", "L(3:0 R(3:0 a 5 d) 7 L(2:0 b 9 c))", 1},
		{"L(1:0 a 5 L(2:0 R(3:0 d 7 b) 9 c))", "L(1:0 R(2:0 a 5 d) 7 L(3:0 b 9 c))", 1},
		{"L(3:0 a 5 L(2:0 R(1:0 d 7 b) 9 c))", "L(2:0 L(3:0 a 5 d) 7 L(1:0 b 9 c))", 1},
		{"L(2:0 a 5 L(2:0 R(1:0 d 7 b) 9 c))", "L(2:0 R(2:0 a 5 d) 7 L(1:0 b 9 c))", 1},
		{"L(1:0 a 5 R(2:0 L(3:0 d 7 b) 9 c))", "L(1:0 R(3:0 a 5 d) 7 R(2:0 b 9 c))", 1},
		{"L(3:0 a 5 R(2:0 L(1:0 d 7 b) 9 c))", "L(1:0 L(3:0 a 5 d) 7 R(2:0 b 9 c))", 1},
		{"L(1:0 a 5 R(2:0 R(3:0 d 7 b) 9 c))", "R(2:0 L(1:0 a 5 d) 7 L(3:0 b 9 c))", 1},
		{"L(1:0 a 5 R(3:0 R(2:0 d 7 b) 9 c))", "R(2:0 L(1:0 a 5 d) 7 R(3:0 b 9 c))", 1},
		{"L(1:0 a 5 R(3:0 R(3:0 d 7 b) 9 c))", "R(3:0 L(1:0 a 5 d) 7 L(3:0 b 9 c))", 1},
		{"R(1:0 a 5 L(2:0 L(3:0 d 7 b) 9 c))", "R(1:0 R(3:0 a 5 d) 7 L(2:0 b 9 c))", 0},
		{"R(1:0 a 5 L(2:0 R(3:0 d 7 b) 9 c))", "R(1:0 R(2:0 a 5 d) 7 L(3:0 b 9 c))", 0},
		{"R(1:0 a 5 R(2:0 L(3:0 d 7 b) 9 c))", "R(1:0 R(3:0 a 5 d) 7 R(2:0 b 9 c))", 0},
		{"R(1:0 a 5 R(2:0 R(3:0 d 7 b) 9 c))", "R(2:0 R(1:0 a 5 d) 7 L(3:0 b 9 c))", 1},
		{"R(1:0 a 5 R(3:0 R(2:0 d 7 b) 9 c))", "R(2:0 R(1:0 a 5 d) 7 R(3:0 b 9 c))", 1},
		{"R(1:0 a 5 R(3:0 R(3:0 d 7 b) 9 c))", "R(3:0 R(1:0 a 5 d) 7 L(3:0 b 9 c))", 1},
	}
	for _, r := range rows {
		// a has 1 element, d 2, b 3, and c 1.
		becomes(t, filled(r.was, "a", "d", "b", "c"), filled(r.want, "a", "d", "b", "c"), steps{r.compared, 4})
		bare := strings.NewReplacer("a", ".", "c", ".")
		becomes(t, filled(bare.Replace(r.was), "e", "d", "b"), filled(bare.Replace(r.want), "e", "d", "b"), steps{r.compared, 4})
	}
}

// P12.2, P12.3: a is turned left first, and then all is turned right, likewise.
func TestTurnedLeftThenRight(t *testing.T) {
	rows := []struct {
		was, want string
		compared  int
	}{
		{"L(1:0 L(2:0 a 5 L(3:0 d 7 b)) 9 c)", "L(2:0 R(3:0 a 5 d) 7 L(1:0 b 9 c))", 1},
		{"L(1:0 L(3:0 a 5 L(2:0 d 7 b)) 9 c)", "L(2:0 L(3:0 a 5 d) 7 L(1:0 b 9 c))", 1},
		{"L(1:0 L(2:0 a 5 L(2:0 d 7 b)) 9 c)", "L(2:0 R(2:0 a 5 d) 7 L(1:0 b 9 c))", 1},
		{"L(1:0 L(2:0 a 5 R(3:0 d 7 b)) 9 c)", "L(1:0 L(2:0 a 5 d) 7 L(3:0 b 9 c))", 0},
		{"L(1:0 R(2:0 a 5 L(3:0 d 7 b)) 9 c)", "L(1:0 R(3:0 a 5 d) 7 L(2:0 b 9 c))", 0},
		{"L(1:0 R(2:0 a 5 R(3:0 d 7 b)) 9 c)", "L(1:0 R(2:0 a 5 d) 7 L(3:0 b 9 c))", 0},
		{"R(1:0 L(2:0 a 5 L(3:0 d 7 b)) 9 c)", "L(2:0 R(3:0 a 5 d) 7 R(1:0 b 9 c))", 1},
		{"R(1:0 L(3:0 a 5 L(2:0 d 7 b)) 9 c)", "L(2:0 L(3:0 a 5 d) 7 R(1:0 b 9 c))", 1},
		{"R(1:0 L(3:0 a 5 L(3:0 d 7 b)) 9 c)", "L(3:0 R(3:0 a 5 d) 7 R(1:0 b 9 c))", 1},
		{"R(1:0 L(2:0 a 5 R(3:0 d 7 b)) 9 c)", "R(1:0 L(2:0 a 5 d) 7 L(3:0 b 9 c))", 1},
		{"R(3:0 L(2:0 a 5 R(1:0 d 7 b)) 9 c)", "R(1:0 L(2:0 a 5 d) 7 R(3:0 b 9 c))", 1},
		{"R(1:0 L(2:0 a 5 R(1:0 d 7 b)) 9 c)", "R(1:0 L(2:0 a 5 d) 7 L(1:0 b 9 c))", 1},
		{"R(1:0 R(2:0 a 5 L(3:0 d 7 b)) 9 c)", "R(1:0 R(3:0 a 5 d) 7 L(2:0 b 9 c))", 1},
		{"R(3:0 R(2:0 a 5 L(1:0 d 7 b)) 9 c)", "R(2:0 R(1:0 a 5 d) 7 R(3:0 b 9 c))", 1},
		{"R(1:0 R(2:0 a 5 R(3:0 d 7 b)) 9 c)", "R(1:0 R(2:0 a 5 d) 7 L(3:0 b 9 c))", 1},
		{"R(3:0 R(2:0 a 5 R(1:0 d 7 b)) 9 c)", "R(1:0 R(2:0 a 5 d) 7 R(3:0 b 9 c))", 1},
		{"R(3:0 R(2:0 a 5 R(3:0 d 7 b)) 9 c)", "R(3:0 R(2:0 a 5 d) 7 L(3:0 b 9 c))", 1},
	}
	for _, r := range rows {
		becomes(t, filled(r.was, "a", "d", "b", "c"), filled(r.want, "a", "d", "b", "c"), steps{r.compared, 4})
		bare := strings.NewReplacer("a", ".", "c", ".")
		becomes(t, filled(bare.Replace(r.was), "e", "d", "b"), filled(bare.Replace(r.want), "e", "d", "b"), steps{r.compared, 4})
	}
}

// P12.2, P12.3: four trees around three elements, of every side and in every order.
func TestAllTurns(t *testing.T) {
	trees := []pair{{}, sized(t, 1), sized(t, 2), sized(t, 4)}
	for code := range 8 * 27 * 4 * 4 {
		sides, ps, outer, inner := code%8, code/8%27, code/8/27%4, code/8/27/4
		x, y, z := el(int64(ps%3)), el(int64(ps/3%3)), el(int64(ps/9))
		below := node(t, sides&1 == 0, z, trees[inner], 7, trees[3])
		for _, p := range []pair{
			node(t, sides&4 == 0, x, trees[outer], 5, node(t, sides&2 == 0, y, below, 9, trees[inner])),
			node(t, sides&4 == 0, x, trees[outer], 5, node(t, sides&2 == 0, y, trees[inner], 9, below)),
			node(t, sides&4 == 0, x, node(t, sides&2 == 0, y, below, 9, trees[inner]), 12, trees[outer]),
			node(t, sides&4 == 0, x, node(t, sides&2 == 0, y, trees[inner], 9, below), 12, trees[outer]),
		} {
			q := rebalance(t, p)
			holds(t, "Balance", q)
			placed(t, p, q)
			holds(t, "what was balanced", p)
		}
	}
}

// shapes are all trees of so many elements, whose sides and elements go on from a number.
func shapes(t *testing.T, n, number int) []pair {
	t.Helper()
	if n == 0 {
		return []pair{{}}
	}
	var l []pair
	for first := range n {
		for _, a := range shapes(t, first, number+1) {
			for _, b := range shapes(t, n-1-first, number+1+first) {
				l = append(l, node(t, number*7%3 == 0, el(int64(number*5%7)), a, int64(number), b))
			}
		}
	}
	return l
}

// P12.1 to P12.5: all trees of up to 5 elements, even ones and others, against each other.
func TestAllShapes(t *testing.T) {
	var first, second []pair
	for n := range 6 {
		first = append(first, shapes(t, n, 0)...)
		second = append(second, shapes(t, n, 11)...)
	}
	if len(first) != 1+1+2+5+14+42 {
		t.Fatalf("%d shapes", len(first))
	}
	for i, a := range first {
		holds(t, "a shape", a)
		for j, b := range second {
			for _, left := range []bool{true, false} {
				x := el(int64((i + j) % 5))
				p, q := node(t, left, x, a, 99, b), balance(t, left, x, a, 99, b)
				tells(t, "Node", p)
				tells(t, "Balance", q)
				placed(t, p, q)
			}
		}
	}
	for _, p := range append(first, second...) {
		holds(t, "a shape of which others were made", p)
	}
}

// P12.4: trees that are even and trees that aren't, at the very bounds, and where only a node deep down isn't.
func TestEven(t *testing.T) {
	rows := []struct {
		a, b int
		even bool
	}{
		{0, 0, true}, {0, 1, true}, {1, 0, true}, {0, 2, true}, {2, 0, true}, {0, 3, false}, {3, 0, false}, {1, 1, true}, {1, 5, true}, {5, 1, true}, {1, 6, false}, {6, 1, false},
		{2, 8, true}, {8, 2, true}, {2, 9, false}, {9, 2, false}, {10, 32, true}, {32, 10, true}, {10, 33, false}, {33, 10, false}, {1000, 3002, true}, {1000, 3003, false}, {3002, 1000, true}, {3003, 1000, false},
	}
	for _, r := range rows {
		for _, left := range []bool{true, false} {
			p := node(t, left, el(1), sized(t, r.a), 5, sized(t, r.b))
			if p.tree.Even() != r.even {
				t.Errorf("Even() of %d and %d elements = %v", r.a, r.b, p.tree.Even())
			}
			tells(t, "Even", p)
			// The node isn't at the top any more, and what is above it is even.
			for p.tree.Size() < 3000 {
				other := sized(t, p.tree.Size())
				p = node(t, !left, el(2), p, 8, other)
				if p.tree.Even() != r.even {
					t.Errorf("Even() above %d and %d elements = %v", r.a, r.b, p.tree.Even())
				}
				p = node(t, left, el(3), other, 3, p)
				if p.tree.Even() != r.even {
					t.Errorf("Even() above %d and %d elements = %v", r.a, r.b, p.tree.Even())
				}
			}
		}
	}
	for n := range 200 {
		if !sized(t, n).tree.Even() {
			t.Errorf("Even() of %d elements, half and half: false", n)
		}
	}
}

// P12.2, P12.4: Balance turns what it is handed, and nothing below that: what isn't even deep down stays as it is.
func TestBalanceTurnsOneNode(t *testing.T) {
	chain := pair{}
	for i := range 9 {
		chain = node(t, i%2 == 0, el(int64(i)), pair{}, int64(i), chain)
	}
	p := balance(t, true, el(2), chain, 5, sized(t, 9))
	holds(t, "Balance of a chain", p)
	if p.tree.Even() || p.tree.Show() != "L(2:0 "+chain.tree.Show()+" 5 "+sized(t, 9).tree.Show()+")" {
		t.Errorf("Balance turned what is below: %s", p.tree.Show())
	}
	q := balance(t, true, el(2), pair{}, 5, chain)
	holds(t, "Balance of a heavy chain", q)
	if q.tree.Even() {
		t.Errorf("Even() of %s", q.tree.Show())
	}
	for range 20 {
		r := rebalance(t, q)
		placed(t, q, r)
		holds(t, "Balance, once more", r)
		q = r
	}
	holds(t, "the chain", chain)
}

// grown fails, unless trees that are balanced all the way up, an element being put in where the number says, are even, no deeper than they may be, and tell all elements in their places.
func grown(t *testing.T, most int, p func(i int) int64, place func(i int) int) {
	t.Helper()
	c := champion{api.Elem{P: p(0)}, pair{}}
	l := []api.Elem{c.winner}
	var old []champion
	var were [][]api.Elem
	for i := 1; i < most; i++ {
		old, were = append(old, c), append(were, slices.Clone(l))
		x := api.Elem{P: p(i), Id: int64(i)}
		at := place(i)
		c, l = c.put(t, x, at), slices.Insert(l, at, x)
		if !c.tree.tree.Even() || c.tree.tree.Size() != i || c.tree.tree.Deep() > 3*bits.Len(uint(i+1)) {
			t.Fatalf("%d put in: Even() = %v, Size() = %d, Deep() = %d", i+1, c.tree.tree.Even(), c.tree.tree.Size(), c.tree.tree.Deep())
		}
		if got := c.tree.tree.Under(c.winner); !slices.Equal(got, l) {
			t.Fatalf("%d put in: Under() = %v, want %v", i+1, got, l)
		}
	}
	holds(t, "grown", c.tree)
	for i, o := range old {
		tells(t, "what was there", o.tree)
		if got := o.tree.tree.Under(o.winner); !slices.Equal(got, were[i]) {
			t.Fatalf("what was there: Under() = %v, want %v", got, were[i])
		}
	}
	for i := most - 1; i > 0; i-- {
		at := place(i) % (i + 1)
		c, l = c.taken(t, at), slices.Delete(l, at, at+1)
		if !c.tree.tree.Even() || c.tree.tree.Size() != i-1 {
			t.Fatalf("taken out, %d left: Even() = %v, Size() = %d", i, c.tree.tree.Even(), c.tree.tree.Size())
		}
		if got := c.tree.tree.Under(c.winner); !slices.Equal(got, l) {
			t.Fatalf("taken out, %d left: Under() = %v, want %v", i, got, l)
		}
	}
}

// P12.2, P12.4, P12.5: trees that grow at one end, at both, in the middle, and anywhere, whoever wins.
func TestGrowing(t *testing.T) {
	orders := []func(i int) int64{
		func(i int) int64 { return int64(i) },
		func(i int) int64 { return int64(-i) },
		func(i int) int64 { return 4 },
		func(i int) int64 { return int64(i * 37 % 23) },
	}
	places := []func(i int) int{
		func(i int) int { return i },
		func(i int) int { return 0 },
		func(i int) int { return i % 2 * i },
		func(i int) int { return i / 2 },
		func(i int) int { return i * 7919 % (i + 1) * 3 % (i + 1) },
		func(i int) int { return i * i * 31 % 101 % (i + 1) },
	}
	for _, p := range orders {
		for _, place := range places {
			grown(t, 100, p, place)
		}
	}
}

// P12.2, P12.4: very many put in at one end, balanced all the way up, by steps that stay few.
func TestManyAtOneEnd(t *testing.T) {
	const n = 1 << 12
	for _, first := range []bool{true, false} {
		c := champion{el(0), pair{}}
		for i := 1; i < n; i++ {
			x := api.Elem{P: int64(i * 2741 % 4099), Id: int64(i)}
			if first {
				c = c.atFront(x)
			} else {
				c = c.atEnd(x)
			}
		}
		c.tree.want = copied(c.tree.tree)
		if !c.tree.tree.Even() || c.tree.tree.Size() != n-1 || c.tree.tree.Deep() > 3*13 {
			t.Errorf("Even() = %v, Size() = %d, Deep() = %d", c.tree.tree.Even(), c.tree.tree.Size(), c.tree.tree.Deep())
		}
		holds(t, "very many", c.tree)
		for i, x := range c.tree.tree.Under(c.winner) {
			want := int64(i)
			if first {
				want = int64(n - 1 - i)
			}
			if x.Id != want {
				t.Fatalf("Under()[%d] = %v", i, x)
			}
		}
	}
}

// copied is the model of a tree, by its parts.
func copied(tree *loser.Tree) *model {
	left, x, a, k, b, is := tree.Parts()
	if !is {
		return nil
	}
	return new(steps).node(left, x, copied(a), k, copied(b))
}

// won is who won of two, told by the tree alone.
func won(c, d champion) champion {
	if before(d.winner, c.winner) {
		return champion{d.winner, pair{tree: loser.Balance(nil, true, c.winner, c.tree.tree, 0, d.tree.tree)}}
	}
	return champion{c.winner, pair{tree: loser.Balance(nil, false, d.winner, c.tree.tree, 0, d.tree.tree)}}
}

// both are the two of whom one won, told by the tree alone.
func (c champion) both() (champion, champion, bool) {
	left, x, a, _, b, is := c.tree.tree.Parts()
	if left {
		return champion{x, pair{tree: a}}, champion{c.winner, pair{tree: b}}, is
	}
	return champion{c.winner, pair{tree: a}}, champion{x, pair{tree: b}}, is
}

// atEnd is who won with an element more behind all others.
func (c champion) atEnd(x api.Elem) champion {
	first, second, is := c.both()
	if !is {
		return won(c, champion{winner: x})
	}
	return won(first, second.atEnd(x))
}

// atFront is who won with an element more ahead of all others.
func (c champion) atFront(x api.Elem) champion {
	first, second, is := c.both()
	if !is {
		return won(champion{winner: x}, c)
	}
	return won(first.atFront(x), second)
}

// P12.5: trees from which others were made, by Node and by Balance, stay as they were.
func TestTreesStay(t *testing.T) {
	all := []pair{{}, sized(t, 1), sized(t, 2), sized(t, 5)}
	for n := range 300 {
		a, b := all[n*7919%len(all)], all[n*104729%len(all)]
		x := api.Elem{P: int64(n * 31 % 11), Id: int64(n % 3)}
		made := []pair{balance(t, n%2 == 0, x, a, int64(n), b), balance(t, n%3 == 0, x, b, int64(-n), a), node(t, n%2 == 1, x, a, int64(n), b), balance(t, true, x, a, 0, a)}
		for _, p := range made {
			tells(t, "just made", p)
			if p.tree.Size() <= 60 {
				all = append(all, p)
			}
		}
		tells(t, "what it came of", a)
		tells(t, "the other one", b)
	}
	for _, p := range all {
		holds(t, "at the end", p)
	}
}

// P12.1 to P12.4: of 2^31 elements too, which are one tree below itself again and again, all but Under and Show is told.
func TestTwiceAndTwice(t *testing.T) {
	all := []pair{{}}
	for n := range 31 {
		p := all[n]
		p = pair{loser.Node(nil, n%2 == 0, el(int64(n)), p.tree, int64(n), p.tree), new(steps).node(n%2 == 0, el(int64(n)), p.want, int64(n), p.want)}
		if p.tree.Size() != 1<<(n+1)-1 || p.tree.Deep() != n+1 || !p.tree.Even() {
			t.Fatalf("Size() = %d, Deep() = %d, Even() = %v", p.tree.Size(), p.tree.Deep(), p.tree.Even())
		}
		all = append(all, p)
	}
	for i, a := range all[:31] {
		for j, b := range all[:31] {
			var s steps
			m := meter.New()
			x := el(int64((i + j) % 40))
			got, want := loser.Balance(m, i%2 == 0, x, a.tree, 5, b.tree), s.balance(i%2 == 0, x, a.want, 5, b.want)
			counted(t, "Balance", m, s)
			if got.Size() != want.size() {
				t.Fatalf("Size() = %d, want %d", got.Size(), want.size())
			}
			alike(t, got, want, 4)
		}
	}
	// One that isn't even below all these is found.
	chain := loser.Node(nil, true, el(1), nil, 1, loser.Node(nil, true, el(1), nil, 1, loser.Node(nil, true, el(1), nil, 1, loser.Node(nil, true, el(1), nil, 1, nil))))
	p := all[2].tree
	for n := 2; n < 30; n++ {
		if n == 2 {
			p = loser.Node(nil, true, el(1), p, 1, chain)
		} else {
			p = loser.Node(nil, false, el(1), all[n].tree, 1, p)
		}
		if p.Even() {
			t.Fatalf("Even() of %d elements", p.Size())
		}
	}
}

// alike fails, unless the uppermost nodes of a tree are those of this one.
func alike(t *testing.T, tree *loser.Tree, want *model, levels int) {
	t.Helper()
	left, x, a, k, b, is := tree.Parts()
	if is != (want != nil) {
		t.Fatalf("Parts(): %v", is)
	}
	if !is || levels == 0 {
		return
	}
	if left != want.left || x != want.x || k != want.k || tree.Size() != want.size() {
		t.Fatalf("Parts() = %v, %v, %d, Size() = %d, want %v, %v, %d, %d", left, x, k, tree.Size(), want.left, want.x, want.k, want.size())
	}
	alike(t, a, want.a, levels-1)
	alike(t, b, want.b, levels-1)
}

// P12.1, P12.4: trees that lie very deep below each other are told too.
func TestDeepBelowEachOther(t *testing.T) {
	const n = 1 << 18
	for side := range 4 {
		left, first := side&1 == 0, side&2 == 0
		var p *loser.Tree
		var text strings.Builder
		for range n {
			if first {
				p = loser.Node(nil, left, el(4), p, 6, nil)
			} else {
				p = loser.Node(nil, left, el(4), nil, 6, p)
			}
		}
		head := "R(4:0 "
		if left {
			head = "L(4:0 "
		}
		if first {
			text.WriteString(strings.Repeat(head, n) + "." + strings.Repeat(" 6 .)", n))
		} else {
			text.WriteString(strings.Repeat(head+". 6 ", n) + "." + strings.Repeat(")", n))
		}
		if p.Size() != n || p.Deep() != n || p.Even() {
			t.Errorf("Size() = %d, Deep() = %d, Even() = %v", p.Size(), p.Deep(), p.Even())
		}
		if p.Show() != text.String() {
			t.Errorf("Show() is another text")
		}
		at := 0
		if left {
			at = n
		}
		for i, x := range p.Under(el(9)) {
			if want := i == at; want != (x == el(9)) || !want && x != el(4) {
				t.Fatalf("Under(9:0)[%d] = %v", i, x)
			}
		}
	}
}

// P12.1, P12.2: a zero tree, which no call answers, is some tree; none of the calls panics on it.
func TestZeroTree(t *testing.T) {
	zero := new(loser.Tree)
	p := pair{zero, new(steps).node(false, api.Elem{}, nil, 0, nil)}
	shows(t, "a zero tree", p, "R(0:0 . 0 .)")
	q := balance(t, true, el(2), p, 5, node(t, true, el(1), p, 8, sized(t, 4)))
	shows(t, "Balance of zero trees", q, "L(1:0 L(2:0 R(0:0 . 0 .) 5 R(0:0 . 0 .)) 8 "+sized(t, 4).tree.Show()+")")
}

// P12.2, P12.3: one meter counts all calls together: made nodes, and comparisons just where two losers meet.
func TestStepsTogether(t *testing.T) {
	m := meter.New()
	c := loser.Node(m, true, el(7), loser.Node(m, true, el(8), nil, 8, nil), 9, nil)
	counted(t, "two nodes", m, steps{0, 2})
	right := loser.Node(m, true, el(3), nil, 7, c)
	counted(t, "and one above", m, steps{0, 3})
	p := loser.Balance(m, true, el(5), nil, 6, right)
	counted(t, "and a turn where two meet", m, steps{1, 5})
	if got := p.Show(); got != "L(3:0 L(5:0 . 6 .) 7 L(7:0 L(8:0 . 8 .) 9 .))" {
		t.Errorf("Show() = %s", got)
	}
	q := loser.Balance(m, false, el(5), nil, 6, right)
	counted(t, "and one where none do", m, steps{1, 7})
	if got := q.Show(); got != "R(5:0 R(3:0 . 6 .) 7 L(7:0 L(8:0 . 8 .) 9 .))" {
		t.Errorf("Show() = %s", got)
	}
	r := loser.Balance(m, true, el(5), nil, 6, loser.Node(nil, false, el(2), c, 11, nil))
	counted(t, "and two turns", m, steps{2, 11})
	if got := r.Show(); got != "L(5:0 R(7:0 . 6 L(8:0 . 8 .)) 9 R(2:0 . 11 .))" {
		t.Errorf("Show() = %s", got)
	}
	s := loser.Balance(m, true, el(5), right, 20, p)
	counted(t, "and no turn", m, steps{2, 12})
	if got := s.Size(); got != 8 {
		t.Errorf("Size() = %d", got)
	}
	if got := m.Steps(); got != 14 {
		t.Errorf("Steps() = %d", got)
	}
}
