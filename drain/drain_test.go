package drain_test

import (
	"math"
	"slices"
	"strconv"
	"testing"

	"slagheap/api"
	"slagheap/drain"
	"slagheap/heap"
	"slagheap/meter"
)

// kinds are the six kinds' numbers.
func kinds() []int { return []int{1, 2, 3, 4, 5, 6} }

// el is the element p:id.
func el(p, id int64) api.Elem { return api.Elem{P: p, Id: id} }

// els are the elements p:0.
func els(ps ...int64) []api.Elem {
	var l []api.Elem
	for _, p := range ps {
		l = append(l, el(p, 0))
	}
	return l
}

// some are so many elements, in an order of their own, several of them the same.
func some(n int) []api.Elem {
	var l []api.Elem
	for i := range int64(n) {
		l = append(l, el(i*37%23-9, i%3))
	}
	return l
}

// ends are numbers at both ends of what 64 bits hold, and between.
func ends() []int64 {
	return []int64{math.MaxInt64, 0, math.MinInt64, -1, 1, math.MinInt64 + 1, math.MaxInt64 - 1}
}

// edges are elements of such numbers.
func edges() []api.Elem {
	var l []api.Elem
	for _, p := range ends() {
		for _, id := range ends() {
			l = append(l, el(p, id))
		}
	}
	return l
}

// rows are lists of elements: none, one, a few, equal ones, those that differ by their ids alone, many, and the ends of what there may be.
func rows() [][]api.Elem {
	return [][]api.Elem{
		nil, els(5), {el(-5, 3)}, els(2, 1, 2), els(1, 2), els(2, 1), els(1, 1), els(1, 1, 1, 1, 1),
		{el(1, 5), el(1, 4), el(1, 6)}, {el(1, 7), el(2, 7), el(1, 7)}, els(1, 2, 3, 4, 5, 6, 7, 8, 9), els(9, 8, 7, 6, 5, 4, 3, 2, 1),
		some(16), some(60), edges(),
	}
}

// before is the order of elements, by what the document says of it.
func before(a, b api.Elem) bool { return a.P < b.P || a.P == b.P && a.Id < b.Id }

// with is a row in order with elements more, each one put behind all that don't stand behind it.
func with(row []api.Elem, l ...api.Elem) []api.Elem {
	row = slices.Clone(row)
	for _, x := range l {
		i := 0
		for i < len(row) && !before(x, row[i]) {
			i++
		}
		row = slices.Insert(row, i, x)
	}
	return row
}

// often is how often a row has an element.
func often(row []api.Elem, x api.Elem) int {
	n := 0
	for _, y := range row {
		if y == x {
			n++
		}
	}
	return n
}

// steps is how many comparisons there are, and how many things made.
type steps struct{ compared, made int }

func split(m *meter.Meter) steps {
	compared, made := m.Split()
	return steps{compared, made}
}

// counted fails, unless so many comparisons and things made were counted since the meter was new.
func counted(t *testing.T, what string, m *meter.Meter, want steps) {
	t.Helper()
	if got := split(m); got != want {
		t.Fatalf("%s: %d comparisons, %d made, want %d, %d", what, got.compared, got.made, want.compared, want.made)
	}
}

// of is the heap of a kind of elements.
func of(t *testing.T, kind int, l ...api.Elem) heap.Heap {
	t.Helper()
	h, errno := heap.Of(nil, kind, l...)
	if errno != api.OK {
		t.Fatalf("Of kind %d: %v", kind, errno)
	}
	return h
}

// pair is a heap, and all its elements, in order.
type pair struct {
	heap heap.Heap
	row  []api.Elem
}

// pairOf is the heap of a kind of elements, and these, in order.
func pairOf(t *testing.T, kind int, l ...api.Elem) pair {
	t.Helper()
	return pair{of(t, kind, l...), with(nil, l...)}
}

// what is a call of a heap, for whoever reads that it failed.
func (p pair) what(call string) string {
	return call + " of kind " + strconv.Itoa(p.heap.Kind()) + ", of " + strconv.Itoa(p.heap.Size()) + " elements"
}

// taken is how many steps there are to the first n elements: a Min for each one, and a Pop ahead of each but the first one; if all are taken, a Pop behind the last one, too.
func (p pair) taken(n int, all bool) steps {
	m := meter.New()
	h := p.heap
	for i := range n {
		if i > 0 {
			h, _ = h.Pop(m)
		}
		h.Min(m)
	}
	if all && n > 0 {
		h.Pop(m)
	}
	return split(m)
}

// own is all that a heap tells of itself, with the steps of Min and of Pop.
type own struct {
	kind, size int
	text       string
	least      api.Elem
	errno      api.Errno
	min, pop   steps
	popped     string
}

func ownOf(h heap.Heap) own {
	o := own{kind: h.Kind(), size: h.Size(), text: h.Show()}
	m := meter.New()
	o.least, o.errno = h.Min(m)
	o.min = split(m)
	m = meter.New()
	others, _ := h.Pop(m)
	o.pop, o.popped = split(m), others.Show()
	return o
}

// stays fails, unless a heap is what it was.
func stays(t *testing.T, what string, h heap.Heap, was own) {
	t.Helper()
	if got := ownOf(h); got != was {
		t.Fatalf("%s: a heap is %v, and was %v", what, got, was)
	}
}

// sorted is Sorted by a meter of its own, and without one; it fails, unless that tells all, by just the steps of Min and Pop.
func (p pair) sorted(t *testing.T) {
	t.Helper()
	was, m := ownOf(p.heap), meter.New()
	got := drain.Sorted(m, p.heap)
	if again := drain.Sorted(nil, p.heap); !slices.Equal(got, p.row) || !slices.Equal(again, p.row) {
		t.Fatalf("%s = %v, without a meter %v, want %v", p.what("Sorted"), got, again, p.row)
	}
	counted(t, p.what("Sorted"), m, p.taken(len(p.row), true))
	stays(t, p.what("Sorted"), p.heap, was)
}

// top is Top by a meter of its own, and without one; it fails, unless that tells so many, by just the steps of Min and of Pop between them.
func (p pair) top(t *testing.T, k int) {
	t.Helper()
	what := p.what("Top " + strconv.Itoa(k))
	var want []api.Elem
	wanted := api.OK
	switch {
	case p.heap.Kind() == 0:
		wanted = 22
	case k < 0:
		wanted = 24
	default:
		want = p.row[:min(k, len(p.row))]
	}
	was, m := ownOf(p.heap), meter.New()
	got, errno := drain.Top(m, p.heap, k)
	again, errnoAgain := drain.Top(nil, p.heap, k)
	if errno != wanted || errnoAgain != wanted || !slices.Equal(got, want) || !slices.Equal(again, want) {
		t.Fatalf("%s = %v, %v, without a meter %v, %v, want %v, %v", what, got, errno, again, errnoAgain, want, wanted)
	}
	counted(t, what, m, p.taken(len(want), false))
	stays(t, what, p.heap, was)
}

// count is Count; it fails, unless that is how often the row has the element.
func (p pair) count(t *testing.T, x api.Elem) {
	t.Helper()
	was := ownOf(p.heap)
	if got := drain.Count(p.heap, x); got != often(p.row, x) {
		t.Fatalf("%s = %d, want %d", p.what("Count "+name(x)), got, often(p.row, x))
	}
	stays(t, p.what("Count"), p.heap, was)
}

// name is an element, for whoever reads that it failed.
func name(x api.Elem) string {
	return strconv.FormatInt(x.P, 10) + ":" + strconv.FormatInt(x.Id, 10)
}

// same is Same of two, each way round; it fails, unless that is what their rows are.
func (p pair) same(t *testing.T, o pair) {
	t.Helper()
	was, wasOther := ownOf(p.heap), ownOf(o.heap)
	want := slices.Equal(p.row, o.row)
	if got, turned := drain.Same(p.heap, o.heap), drain.Same(o.heap, p.heap); got != want || turned != want {
		t.Fatalf("%s and %s = %v, the other way round %v, want %v", p.what("Same"), o.what("that"), got, turned, want)
	}
	stays(t, p.what("Same"), p.heap, was)
	stays(t, o.what("Same"), o.heap, wasOther)
}

// all is All and Done of a heap's Drain; it fails, unless that tells all, each time, and drains once, when it is asked.
func (p pair) all(t *testing.T) {
	t.Helper()
	was := ownOf(p.heap)
	d := drain.Of(p.heap)
	if got := d.Done(); got != 0 {
		t.Fatalf("%s = %d ahead of All", p.what("Done"), got)
	}
	for range 3 {
		if got := d.All(); !slices.Equal(got, p.row) {
			t.Fatalf("%s = %v, want %v", p.what("All"), got, p.row)
		}
		if got := d.Done(); got != 1 {
			t.Fatalf("%s = %d behind All", p.what("Done"), got)
		}
	}
	stays(t, p.what("All"), p.heap, was)
}

// counts are counts at which a heap of so many elements may be asked for the first ones.
func counts(size int) []int {
	return []int{math.MinInt, math.MinInt + 1, -1 << 32, -size - 1, -size, -1, 0, 1, 2, size / 2, size - 1, size, size + 1, 2*size + 9, 1 << 32, math.MaxInt - 1, math.MaxInt}
}

// holds fails, unless all that is asked of a heap is what it is of its row.
func (p pair) holds(t *testing.T) {
	t.Helper()
	p.sorted(t)
	for _, k := range counts(len(p.row)) {
		p.top(t, k)
	}
	for _, x := range []api.Elem{el(1, 0), el(2, 0), el(-9, 0), el(99, 0), el(math.MinInt64, math.MinInt64), el(math.MaxInt64, math.MaxInt64)} {
		p.count(t, x)
	}
	for i := 0; i < len(p.row); i += 1 + len(p.row)/20 {
		p.count(t, p.row[i])
	}
	p.same(t, p)
	p.all(t)
}

// P16.1: Sorted of {2, 1, 2}: 1, 2, 2.
func TestExample(t *testing.T) {
	for _, kind := range kinds() {
		p := pairOf(t, kind, els(2, 1, 2)...)
		if got := drain.Sorted(nil, p.heap); !slices.Equal(got, els(1, 2, 2)) {
			t.Errorf("%s = %v", p.what("Sorted"), got)
		}
		p.holds(t)
	}
}

// P16.1: how many steps there are, written out: of a Min for each element, and of a Pop where one more is told; of Sorted behind the last one, too.
func TestWrittenOut(t *testing.T) {
	for _, r := range []struct {
		kind   int
		text   string
		sorted steps
		// tops are those of Top 0, Top 1 and so on.
		tops []steps
	}{
		// The first Pop melds 2 and 3.
		{heap.Leftist, "(1:0 (2:0 . .) (3:0 . .))", steps{1, 1}, []steps{{0, 0}, {0, 0}, {1, 1}, {1, 1}, {1, 1}}},
		// Min and Pop of two trees: a comparison each; and this Pop links 2 and 3.
		{heap.Binomial, "(3:0) (1:0 (2:0))", steps{3, 1}, []steps{{0, 0}, {1, 0}, {3, 1}, {3, 1}, {3, 1}}},
		// The first Pop melds 3 and 2.
		{heap.Pairing, "(1:0 (3:0) (2:0))", steps{1, 1}, []steps{{0, 0}, {0, 0}, {1, 1}, {1, 1}, {1, 1}}},
		// The first Pop puts in 3; then there are two trees, with a comparison by Min, and one by Pop.
		{heap.Skew, "(1:0 +3:0 (2:0))", steps{2, 1}, []steps{{0, 0}, {0, 0}, {1, 1}, {2, 1}, {2, 1}}},
		// The first Pop is one of two trees, and a heap made; the second one of one tree, and a heap made.
		{heap.Rooted, "1:0 (3:0) (2:0)", steps{2, 2}, []steps{{0, 0}, {0, 0}, {2, 1}, {2, 2}, {2, 2}}},
		{heap.Boot, "[1:0 [3:0] [2:0]]", steps{2, 2}, []steps{{0, 0}, {0, 0}, {2, 1}, {2, 2}, {2, 2}}},
	} {
		p := pairOf(t, r.kind, els(2, 1, 3)...)
		if got := p.heap.Show(); got != r.text {
			t.Fatalf("%s is %s, want %s", p.what("a heap"), got, r.text)
		}
		m := meter.New()
		drain.Sorted(m, p.heap)
		counted(t, p.what("Sorted"), m, r.sorted)
		for k, want := range r.tops {
			m := meter.New()
			drain.Top(m, p.heap, k)
			counted(t, p.what("Top "+strconv.Itoa(k)), m, want)
		}
		p.holds(t)
	}
}

// P16.1: Sorted of none, of one, of a few, of many, of those that are the same; each time the same.
func TestSorted(t *testing.T) {
	for _, kind := range kinds() {
		for _, l := range rows() {
			p := pairOf(t, kind, l...)
			p.sorted(t)
			p.sorted(t)
		}
	}
}

// P16.1: Top of each count there may be, however many there are.
func TestTop(t *testing.T) {
	for _, kind := range kinds() {
		for _, l := range rows() {
			p := pairOf(t, kind, l...)
			for _, k := range counts(len(l)) {
				p.top(t, k)
			}
			for k := range min(len(l)+3, 25) {
				p.top(t, k)
			}
		}
	}
}

// P16.1: of a count below 0: ErrCount, and none, and no step, also of an empty heap; of a count of 0 none, and no error.
func TestTopOfNone(t *testing.T) {
	for _, kind := range kinds() {
		for _, l := range [][]api.Elem{nil, els(7), els(3, 1, 2)} {
			h, m := of(t, kind, l...), meter.New()
			for _, k := range []int{math.MinInt, math.MinInt + 1, -1 << 32, -4, -3, -2, -1} {
				if got, errno := drain.Top(m, h, k); len(got) != 0 || errno != 24 {
					t.Errorf("Top %d of kind %d = %v, %v", k, kind, got, errno)
				}
			}
			if got, errno := drain.Top(m, h, 0); len(got) != 0 || errno != api.OK {
				t.Errorf("Top 0 of kind %d = %v, %v", kind, got, errno)
			}
			counted(t, "Top of none of kind "+strconv.Itoa(kind), m, steps{})
		}
		h, m := of(t, kind), meter.New()
		for _, k := range []int{1, 2, 1 << 32, math.MaxInt} {
			if got, errno := drain.Top(m, h, k); len(got) != 0 || errno != api.OK {
				t.Errorf("Top %d of an empty heap of kind %d = %v, %v", k, kind, got, errno)
			}
		}
		if got := drain.Sorted(m, h); len(got) != 0 {
			t.Errorf("Sorted of an empty heap of kind %d = %v", kind, got)
		}
		counted(t, "an empty heap of kind "+strconv.Itoa(kind), m, steps{})
	}
}

// P16.1 to P16.3: of a heap without a kind: ErrKind of Top, whatever the count; none of all else, and no step.
func TestZero(t *testing.T) {
	var zero heap.Heap
	m := meter.New()
	if got := drain.Sorted(m, zero); len(got) != 0 {
		t.Errorf("Sorted = %v", got)
	}
	for _, k := range []int{math.MinInt, -5, -1, 0, 1, 9, math.MaxInt} {
		if got, errno := drain.Top(m, zero, k); len(got) != 0 || errno != 22 {
			t.Errorf("Top %d = %v, %v", k, got, errno)
		}
	}
	counted(t, "the zero heap", m, steps{})
	for _, x := range edges() {
		if got := drain.Count(zero, x); got != 0 {
			t.Errorf("Count %v = %d", x, got)
		}
	}
	pair{zero, nil}.holds(t)
	refused, _ := heap.Of(nil, 7, els(1, 2)...)
	pair{refused, nil}.holds(t)
}

// P16.2: how often an element is there: not at all, once, often; another one of the same P, or of the same Id, is another one.
func TestCount(t *testing.T) {
	l := []api.Elem{el(2, 7), el(1, 7), el(2, 7), el(2, 8), el(0, 0), el(2, 7), el(3, 7), el(2, 8), el(-7, 2), el(7, -2)}
	for _, kind := range kinds() {
		p := pairOf(t, kind, l...)
		for _, r := range []struct {
			x    api.Elem
			want int
		}{
			{el(2, 7), 3}, {el(2, 8), 2}, {el(1, 7), 1}, {el(0, 0), 1}, {el(3, 7), 1}, {el(-7, 2), 1}, {el(7, -2), 1},
			{el(2, 6), 0}, {el(2, 9), 0}, {el(2, 0), 0}, {el(1, 8), 0}, {el(3, 8), 0}, {el(4, 7), 0}, {el(7, 2), 0}, {el(2, -7), 0}, {el(-9, 0), 0}, {el(9, 9), 0},
			{el(math.MinInt64, math.MinInt64), 0}, {el(math.MaxInt64, math.MaxInt64), 0},
		} {
			p.count(t, r.x)
			if got := drain.Count(p.heap, r.x); got != r.want {
				t.Errorf("%s = %d, want %d", p.what("Count "+name(r.x)), got, r.want)
			}
		}
	}
}

// P16.2: elements at both ends of 64 bits are counted as others are; of the empty heap there are none.
func TestCountOfEnds(t *testing.T) {
	for _, kind := range kinds() {
		none, all, twice := pairOf(t, kind), pairOf(t, kind, edges()...), pairOf(t, kind, append(edges(), edges()[:25]...)...)
		for _, x := range edges() {
			none.count(t, x)
			all.count(t, x)
			twice.count(t, x)
		}
	}
	for _, kind := range kinds() {
		for _, x := range edges()[:9] {
			p := pairOf(t, kind, x)
			for _, y := range edges() {
				p.count(t, y)
			}
		}
	}
}

// P16.2: of one element put in again and again all are counted, alone and among others.
func TestCountOfOne(t *testing.T) {
	for _, kind := range kinds() {
		p, among := pairOf(t, kind), pairOf(t, kind, some(20)...)
		for range 40 {
			p = p.insert(t, el(3, -3))
			among = among.insert(t, el(3, -3))
			p.count(t, el(3, -3))
			p.count(t, el(-3, 3))
			among.count(t, el(3, -3))
			among.count(t, el(3, 0))
		}
	}
}

// insert, meld and pop are those of a heap, and of its row.
func (p pair) insert(t *testing.T, x api.Elem) pair {
	t.Helper()
	h, errno := p.heap.Insert(nil, x)
	if errno != api.OK {
		t.Fatalf("%s: %v", p.what("Insert"), errno)
	}
	return pair{h, with(p.row, x)}
}

func (p pair) meld(t *testing.T, o pair) pair {
	t.Helper()
	h, errno := p.heap.Meld(nil, o.heap)
	if errno != api.OK {
		t.Fatalf("%s: %v", p.what("Meld"), errno)
	}
	return pair{h, with(p.row, o.row...)}
}

func (p pair) pop(t *testing.T) pair {
	t.Helper()
	if len(p.row) == 0 {
		return p
	}
	h, errno := p.heap.Pop(nil)
	if errno != api.OK {
		t.Fatalf("%s: %v", p.what("Pop"), errno)
	}
	return pair{h, p.row[1:]}
}

// made are heaps of a kind with the same elements, each made in a way of its own: as they come, the other way round, in order, of two that are melded, of each one melded, and of one with more, from which that was popped.
func made(t *testing.T, kind int, l []api.Elem) []pair {
	t.Helper()
	turned := slices.Clone(l)
	slices.Reverse(turned)
	single := pairOf(t, kind)
	for _, x := range l {
		single = pairOf(t, kind, x).meld(t, single)
	}
	least := el(math.MinInt64, math.MinInt64)
	return []pair{
		pairOf(t, kind, l...), pairOf(t, kind, turned...), pairOf(t, kind, with(nil, l...)...),
		pairOf(t, kind, l[:len(l)/3]...).meld(t, pairOf(t, kind, l[len(l)/3:]...)), single,
		pairOf(t, kind, append(turned, least)...).insert(t, least).pop(t).pop(t),
	}
}

// P16.2, P16.4: the same elements, whatever the kind, and however the heap was made.
func TestSame(t *testing.T) {
	for _, l := range rows() {
		for _, kind := range kinds() {
			heaps := made(t, kind, l)
			for _, p := range heaps {
				for _, o := range heaps {
					p.same(t, o)
				}
				for _, other := range kinds() {
					p.same(t, pairOf(t, other, l...))
				}
			}
		}
	}
}

// P16.2: those that differ in one element, in its P or in its Id, wherever it stands in order.
func TestSameButOne(t *testing.T) {
	for _, l := range [][]api.Elem{els(5), els(1, 2), els(1, 2, 3, 4, 5), some(16)} {
		for _, kind := range kinds() {
			for _, other := range kinds() {
				p := pairOf(t, kind, l...)
				for i, x := range l {
					for _, y := range []api.Elem{el(x.P+1, x.Id), el(x.P, x.Id+1), el(x.P-1, x.Id), el(x.P, x.Id-1), el(99, 0), el(-99, 0), el(x.Id, x.P)} {
						p.same(t, pairOf(t, other, slices.Concat(l[:i], []api.Elem{y}, l[i+1:])...))
					}
				}
			}
		}
	}
}

// P16.2: those that differ in how often an element is there, and those that differ in size only.
func TestSameButOften(t *testing.T) {
	for _, kind := range kinds() {
		for _, other := range kinds() {
			lists := [][]api.Elem{
				nil, els(1), els(1, 1), els(1, 1, 1), els(1, 2), els(1, 1, 2), els(1, 2, 2), els(1, 1, 2, 2), els(1, 2, 2, 2), els(1, 1, 1, 2),
				els(0, 0, 0), els(0), els(1, 2, 3), els(1, 2, 3, 3), els(1, 1, 2, 3), els(1, 2, 3, 4), els(0, 1, 2, 3),
				{el(1, 1)}, {el(1, 0), el(0, 1)}, {el(0, 1), el(0, 1)},
			}
			for _, l := range lists {
				for _, k := range lists {
					p, o := pairOf(t, kind, l...), pairOf(t, other, k...)
					p.same(t, o)
					if got := drain.Same(p.heap, o.heap); got != slices.Equal(with(nil, l...), with(nil, k...)) {
						t.Errorf("Same of %v and %v = %v", l, k, got)
					}
				}
			}
		}
	}
}

// P16.2: empty ones of different kinds, and one without a kind, have the same elements: none.
func TestSameOfNone(t *testing.T) {
	var zero heap.Heap
	if !drain.Same(zero, zero) {
		t.Error("one without a kind hasn't the elements that it has")
	}
	for _, kind := range kinds() {
		none := of(t, kind)
		if !drain.Same(zero, none) || !drain.Same(none, zero) {
			t.Errorf("one without a kind hasn't those of an empty one of kind %d", kind)
		}
		for _, other := range kinds() {
			if !drain.Same(none, of(t, other)) {
				t.Errorf("an empty one of kind %d hasn't those of an empty one of kind %d", kind, other)
			}
			for _, l := range [][]api.Elem{els(0), els(1), els(0, 0), els(-4, 2, 9)} {
				if h := of(t, other, l...); drain.Same(none, h) || drain.Same(h, none) {
					t.Errorf("an empty one of kind %d has those of %v of kind %d", kind, l, other)
				}
			}
		}
		for _, l := range [][]api.Elem{els(0), els(1), els(0, 0), els(-4, 2, 9)} {
			if h := of(t, kind, l...); drain.Same(zero, h) || drain.Same(h, zero) {
				t.Errorf("one without a kind has the elements %v of kind %d", l, kind)
			}
		}
	}
}

// P16.3: All is all, each time; Done is 0 ahead of it, and 1 for ever behind.
func TestDrain(t *testing.T) {
	for _, kind := range kinds() {
		for _, l := range rows() {
			p := pairOf(t, kind, l...)
			p.all(t)
			d := drain.Of(p.heap)
			for range 5 {
				if got := d.Done(); got != 0 {
					t.Fatalf("%s = %d, and nobody asked", p.what("Done"), got)
				}
			}
			for range 20 {
				d.All()
				if got := d.Done(); got != 1 {
					t.Fatalf("%s = %d", p.what("Done"), got)
				}
			}
		}
	}
}

// P16.3: one without a kind, and an empty one, are drained once, too.
func TestDrainOfNone(t *testing.T) {
	heaps := []heap.Heap{{}}
	for _, kind := range kinds() {
		heaps = append(heaps, of(t, kind))
	}
	for _, h := range heaps {
		d := drain.Of(h)
		if got := d.Done(); got != 0 {
			t.Errorf("Done of none, of kind %d, = %d", h.Kind(), got)
		}
		for range 3 {
			if got := d.All(); len(got) != 0 {
				t.Errorf("All of none, of kind %d, = %v", h.Kind(), got)
			}
			if got := d.Done(); got != 1 {
				t.Errorf("Done of none, of kind %d, = %d behind All", h.Kind(), got)
			}
		}
	}
}

// P16.3: of no Drain All is none, and Done 0, ahead of All and behind it.
func TestNil(t *testing.T) {
	var d *drain.Drain
	for range 3 {
		if got := d.Done(); got != 0 {
			t.Errorf("Done of nil = %d", got)
		}
		if got := d.All(); len(got) != 0 {
			t.Errorf("All of nil = %v", got)
		}
	}
}

// P16.3: two Drains of one heap are drained each on its own, and neither hangs on what the other one told.
func TestTwoDrains(t *testing.T) {
	for _, kind := range kinds() {
		p := pairOf(t, kind, some(20)...)
		a, b := drain.Of(p.heap), drain.Of(p.heap)
		if a == b {
			t.Fatalf("%s is one and the same thing twice", p.what("Of"))
		}
		first := a.All()
		if a.Done() != 1 || b.Done() != 0 {
			t.Errorf("%s = %d and %d, and just the first one was asked", p.what("Done"), a.Done(), b.Done())
		}
		spoil(first)
		if got := b.All(); !slices.Equal(got, p.row) {
			t.Errorf("%s, of the second one = %v", p.what("All"), got)
		}
		if got := a.All(); !slices.Equal(got, p.row) || a.Done() != 1 || b.Done() != 1 {
			t.Errorf("%s, of the first one = %v; Done = %d and %d", p.what("All"), got, a.Done(), b.Done())
		}
	}
}

// P16.3: a Drain tells the heap that it was made of, whatever is made of that later on.
func TestDrainOfVersion(t *testing.T) {
	for _, kind := range kinds() {
		p := pairOf(t, kind, some(20)...)
		d := drain.Of(p.heap)
		p.insert(t, el(-50, 0)).all(t)
		p.pop(t).pop(t).all(t)
		p.meld(t, p).all(t)
		if got := d.All(); !slices.Equal(got, p.row) || d.Done() != 1 {
			t.Errorf("%s = %v, Done = %d", p.what("All"), got, d.Done())
		}
	}
}

// spoil writes a list full, and what lies behind its end.
func spoil(l []api.Elem) {
	l = l[:cap(l)]
	for i := range l {
		l[i] = el(-77, -77)
	}
}

// P16.1, P16.3: what is told is new memory: what is written there turns no heap, no Drain, and nothing told before or behind it.
func TestNewMemory(t *testing.T) {
	for _, kind := range kinds() {
		for _, l := range rows() {
			p := pairOf(t, kind, l...)
			was, d := ownOf(p.heap), drain.Of(p.heap)
			ask := func() [][]api.Elem {
				top, _ := drain.Top(nil, p.heap, len(l)/2)
				whole, _ := drain.Top(nil, p.heap, len(l))
				return [][]api.Elem{drain.Sorted(nil, p.heap), d.All(), whole, drain.Sorted(nil, p.heap), d.All(), top, d.All()}
			}
			for range 3 {
				told := append(ask(), ask()...)
				for i, got := range told {
					want := p.row
					if i%7 == 5 {
						want = p.row[:len(l)/2]
					}
					if !slices.Equal(got, want) {
						t.Fatalf("%s %d = %v, want %v", p.what("answer"), i, got, want)
					}
					spoil(got)
				}
			}
			stays(t, p.what("behind a write into answers"), p.heap, was)
			p.holds(t)
		}
	}
}

// P16.1 to P16.3: the meter by which a heap was made counts no more than it is told: nothing of Count, of Same and of All.
func TestNothingElseCounted(t *testing.T) {
	for _, kind := range kinds() {
		m := meter.New()
		h, _ := heap.Of(m, kind, some(30)...)
		p, was := pair{h, with(nil, some(30)...)}, split(m)
		drain.Count(h, p.row[4])
		drain.Count(h, el(99, 0))
		drain.Same(h, h)
		drain.Same(h, of(t, kind, some(30)...))
		d := drain.Of(h)
		d.All()
		d.All()
		drain.Sorted(nil, h)
		drain.Top(nil, h, 9)
		drain.Sorted(meter.New(), h)
		counted(t, p.what("Count, Same and All"), m, was)
		drain.Sorted(m, h)
		drain.Top(m, h, 9)
		sorted, top := p.taken(30, true), p.taken(9, false)
		counted(t, p.what("Sorted and Top"), m, steps{was.compared + sorted.compared + top.compared, was.made + sorted.made + top.made})
	}
}

// family is heaps of all kinds, made by the same calls.
type family []pair

// holds fails, unless all that is asked is what it is of the row, whatever the kind.
func (f family) holds(t *testing.T) {
	t.Helper()
	for i, p := range f {
		p.holds(t)
		p.same(t, f[(i+1)%len(f)])
	}
}

// each is the same call of each kind.
func (f family) each(call func(p pair) pair) family {
	var g family
	for _, p := range f {
		g = append(g, call(p))
	}
	return g
}

// familyOf is the heaps of all kinds of elements.
func familyOf(t *testing.T, l ...api.Elem) family {
	t.Helper()
	var f family
	for _, kind := range kinds() {
		f = append(f, pairOf(t, kind, l...))
	}
	return f
}

// random is numbers one after the other, the same ones each time.
type random uint64

func (r *random) below(n int64) int64 {
	*r = *r*6364136223846793005 + 1442695040888963407
	return int64(uint64(*r) >> 33 % uint64(n))
}

// P16.1 to P16.4: heaps made by many operations, of all kinds by the same ones, tell what the row tells; and what others were made of tells what it did.
func TestHistories(t *testing.T) {
	r := random(9)
	for _, size := range []struct{ priorities, ids, versions int64 }{{3, 1, 50}, {12, 3, 60}, {1000, 2, 60}, {1 << 40, 1 << 40, 50}} {
		some := func() api.Elem { return el(r.below(size.priorities)-size.priorities/2, r.below(size.ids)) }
		all := []family{familyOf(t), familyOf(t, some()), familyOf(t, some(), some(), some())}
		for range size.versions {
			a, b := all[r.below(int64(len(all)))], all[len(all)-1]
			x, y := some(), some()
			var f family
			switch r.below(6) {
			case 0, 1:
				f = b.each(func(p pair) pair { return p.insert(t, x).insert(t, y) })
			case 2, 3:
				f = a.each(func(p pair) pair { return p.meld(t, b[p.heap.Kind()-1]) })
			case 4:
				f = b.each(func(p pair) pair { return p.pop(t) })
			default:
				f = a.each(func(p pair) pair { return p.pop(t).insert(t, x) })
			}
			if len(f[0].row) > 50 {
				f = familyOf(t, x, y, x)
			}
			f.holds(t)
			f[0].same(t, a[5])
			f[3].same(t, b[1])
			all = append(all, f)
		}
		for i := 0; i < len(all); i += 4 {
			all[i].holds(t)
		}
	}
}

// P16.1 to P16.4: many elements, in an order of their own, are told in order, whatever the kind.
func TestMany(t *testing.T) {
	const n = 1 << 11
	var l []api.Elem
	for i := range int64(n) {
		l = append(l, el(i*2741%4099%511, i%5))
	}
	row := with(nil, l...)
	first := of(t, heap.Leftist, l...)
	for _, kind := range kinds() {
		p := pair{of(t, kind, l...), row}
		p.sorted(t)
		p.all(t)
		for _, k := range []int{1, n / 2, n - 1, n, n + 1, math.MaxInt} {
			p.top(t, k)
		}
		if !drain.Same(p.heap, first) || drain.Same(p.heap, p.pop(t).heap) {
			t.Errorf("%s isn't what it is of another kind", p.what("Same"))
		}
		for _, x := range []api.Elem{row[0], row[n/2], row[n-1], el(4, 5), el(-1, 0), el(512, 0)} {
			p.count(t, x)
		}
	}
}

// P16.1: of 2^31 elements, which are one heap melded with itself again and again, the first ones are told, by the steps of Min and Pop.
func TestTopOfTwiceAndTwice(t *testing.T) {
	for _, kind := range kinds() {
		h := of(t, kind, els(2, 1)...)
		for h.Size() < 1<<31 {
			h, _ = h.Meld(nil, h)
			told := min(5, h.Size()/2)
			p, m := pair{h, els(1, 1, 1, 1, 1)}, meter.New()
			if got, errno := drain.Top(m, h, told); !slices.Equal(got, p.row[:told]) || errno != api.OK {
				t.Fatalf("%s = %v, %v", p.what("Top"), got, errno)
			}
			counted(t, p.what("Top"), m, p.taken(told, false))
		}
	}
}
