package convert_test

import (
	"math"
	"slices"
	"strconv"
	"testing"

	"slagheap/api"
	"slagheap/convert"
	"slagheap/drain"
	"slagheap/heap"
	"slagheap/meter"
	"slagheap/pennant"
)

// kinds are the six kinds' numbers.
func kinds() []int { return []int{1, 2, 3, 4, 5, 6} }

// unkinds are numbers of no kind.
func unkinds() []int {
	return []int{0, -1, 7, 8, -2, -6, 255, 257, 1<<16 + 1, 1<<32 + 1, 1<<32 + 6, math.MinInt, math.MinInt + 1, math.MaxInt - 1, math.MaxInt}
}

// el is the element p:id.
func el(p, id int64) api.Elem { return api.Elem{P: p, Id: id} }

// els are the elements p:0.
func els(ps ...int64) []api.Elem {
	var l []api.Elem
	for _, p := range ps {
		l = append(l, el(p, 0))
	}
	return l
}

// some are so many elements, in an order of their own, of so many keys at most, several of them the same.
func some(n, keys int64) []api.Elem {
	var l []api.Elem
	for i := range n {
		l = append(l, el(i*37%23-9, i*5%keys-keys/2))
	}
	return l
}

// ends are numbers at both ends of what 64 bits hold, and between.
func ends() []int64 {
	return []int64{math.MaxInt64, 0, math.MinInt64, -1, 1, math.MinInt64 + 1, math.MaxInt64 - 1}
}

// edges are elements of such numbers.
func edges() []api.Elem {
	var l []api.Elem
	for _, p := range ends() {
		for _, id := range ends() {
			l = append(l, el(p, id))
		}
	}
	return l
}

// rows are lists of elements: none, one, a few, equal ones, those of one key, those of one P, those of unlike keys, many, and the ends of what there may be.
func rows() [][]api.Elem {
	return [][]api.Elem{
		nil, els(5), {el(-5, 3)}, {el(0, 0)}, els(2, 1, 2), els(1, 1), els(1, 1, 1, 1, 1), els(9, 8, 7, 6, 5, 4, 3, 2, 1),
		{el(1, 7), el(2, 7)}, {el(2, 7), el(1, 7)}, {el(2, 7), el(1, 7), el(3, 7), el(1, 7)}, {el(4, 7), el(4, 7), el(4, 7)},
		{el(1, 5), el(1, 4), el(1, 6)}, {el(2, 1), el(2, 2), el(2, -3), el(2, 0), el(2, 9)},
		{el(2, 5), el(1, 9)}, {el(3, 1), el(1, 2), el(2, 3)}, {el(7, -7), el(-7, 7), el(7, 7), el(-7, -7)}, {el(2, 3), el(3, 2), el(2, 2), el(3, 3)},
		some(16, 3), some(40, 7), some(60, 61), edges(),
	}
}

// before is the order of elements, by what the document says of it.
func before(a, b api.Elem) bool { return a.P < b.P || a.P == b.P && a.Id < b.Id }

// with is a row in order with elements more, each one put behind all that don't stand behind it.
func with(row []api.Elem, l ...api.Elem) []api.Elem {
	row = slices.Clone(row)
	for _, x := range l {
		i := len(row)
		for i > 0 && before(x, row[i-1]) {
			i--
		}
		row = slices.Insert(row, i, x)
	}
	return row
}

// keyed is a map of keys to priorities.
type keyed map[int64]int64

// leasts are the keys of elements, each with the least priority that it has there.
func leasts(l []api.Elem) keyed {
	k := keyed{}
	for _, x := range l {
		if p, is := k[x.Id]; !is || x.P < p {
			k[x.Id] = x.P
		}
	}
	return k
}

// inOrder are the elements of a map, in order.
func (k keyed) inOrder() []api.Elem {
	var l []api.Elem
	for key, p := range k {
		l = append(l, el(p, key))
	}
	return with(nil, l...)
}

// byKeys are the elements of a map, by rising keys.
func (k keyed) byKeys() []api.Elem {
	l := k.inOrder()
	slices.SortFunc(l, func(a, b api.Elem) int {
		if a.Id < b.Id {
			return -1
		}
		return 1
	})
	return l
}

// steps is how many comparisons there are, and how many things made.
type steps struct{ compared, made int }

func (s steps) plus(o steps) steps { return steps{s.compared + o.compared, s.made + o.made} }

func split(m *meter.Meter) steps {
	compared, made := m.Split()
	return steps{compared, made}
}

// counted fails, unless so many comparisons and things made were counted since the meter was new.
func counted(t *testing.T, what string, m *meter.Meter, want steps) {
	t.Helper()
	if got := split(m); got != want {
		t.Fatalf("%s: %d comparisons, %d made, want %d, %d", what, got.compared, got.made, want.compared, want.made)
	}
}

// ownHeap is all that a heap tells of itself, with the steps of Min and of Pop.
type ownHeap struct {
	kind, size int
	text       string
	least      api.Elem
	errno      api.Errno
	min, pop   steps
	popped     string
}

func ownOf(h heap.Heap) ownHeap {
	o := ownHeap{kind: h.Kind(), size: h.Size(), text: h.Show()}
	m := meter.New()
	o.least, o.errno = h.Min(m)
	o.min = split(m)
	m = meter.New()
	others, _ := h.Pop(m)
	o.pop, o.popped = split(m), others.Show()
	return o
}

// ownQueue is all that a queue tells of itself, with the steps of Pop.
type ownQueue struct {
	size, deep int
	text       string
	least      api.Elem
	is         bool
	pop        steps
	popped     string
}

func ownOfQueue(q pennant.Queue) ownQueue {
	o := ownQueue{size: q.Size(), deep: q.Deep(), text: q.Show()}
	o.least, o.is = q.Min(nil)
	m := meter.New()
	others, _ := q.Pop(m)
	o.pop, o.popped = split(m), others.Show()
	return o
}

// pair is a heap, and all its elements, in order.
type pair struct {
	heap heap.Heap
	row  []api.Elem
}

// pairOf is the heap of a kind of elements, and these, in order.
func pairOf(t *testing.T, kind int, l ...api.Elem) pair {
	t.Helper()
	return pair{of(t, nil, kind, l...), with(nil, l...)}
}

// of is the heap of a kind of elements.
func of(t *testing.T, m *meter.Meter, kind int, l ...api.Elem) heap.Heap {
	t.Helper()
	h, errno := heap.Of(m, kind, l...)
	if errno != api.OK {
		t.Fatalf("Of kind %d: %v", kind, errno)
	}
	return h
}

// what is a call of a heap, for whoever reads that it failed.
func (p pair) what(call string) string {
	return call + " of kind " + strconv.Itoa(p.heap.Kind()) + ", of " + strconv.Itoa(p.heap.Size()) + " elements"
}

// stays fails, unless a heap is what it was, and has its row's elements.
func (p pair) stays(t *testing.T, what string, was ownHeap) {
	t.Helper()
	if got := ownOf(p.heap); got != was {
		t.Fatalf("%s: the heap that was handed in is %v, and was %v", what, got, was)
	}
	p.has(t, what)
}

// has fails, unless a heap has just its row's elements.
func (p pair) has(t *testing.T, what string) {
	t.Helper()
	if got := drain.Sorted(nil, p.heap); !slices.Equal(got, p.row) {
		t.Fatalf("%s: a heap of kind %d has %v, want %v", what, p.heap.Kind(), got, p.row)
	}
}

// search is a queue, and its keys with their priorities.
type search struct {
	queue pennant.Queue
	keys  keyed
}

// searchOf is the queue of elements, and their keys with the priorities that were put in last.
func searchOf(l ...api.Elem) search {
	keys := keyed{}
	for _, x := range l {
		keys[x.Id] = x.P
	}
	return search{pennant.Of(nil, l...), keys}
}

// what is a call of a queue, for whoever reads that it failed.
func (s search) what(call string) string {
	return call + " of a queue of " + strconv.Itoa(s.queue.Size()) + " elements"
}

// stays fails, unless a queue is what it was, and has its map's elements.
func (s search) stays(t *testing.T, what string, was ownQueue) {
	t.Helper()
	if got := ownOfQueue(s.queue); got != was {
		t.Fatalf("%s: the queue that was handed in is %v, and was %v", what, got, was)
	}
	s.has(t, what)
}

// has fails, unless a queue has just its map's elements.
func (s search) has(t *testing.T, what string) {
	t.Helper()
	if got := s.queue.All(); !slices.Equal(got, s.keys.byKeys()) {
		t.Fatalf("%s: a queue has %v, want %v", what, got, s.keys.byKeys())
	}
	for key, p := range s.keys {
		if got, is := s.queue.Lookup(nil, key); got != p || !is {
			t.Fatalf("%s: the key %d has %d, %v, want %d", what, key, got, is, p)
		}
	}
}

// to is To by a meter of its own, and without one; it fails, unless that is the heap of the elements in order, by just the steps of Sorted and of Of.
func (p pair) to(t *testing.T, kind int) pair {
	t.Helper()
	what := p.what("To " + strconv.Itoa(kind))
	was, m, wanted := ownOf(p.heap), meter.New(), meter.New()
	got, errno := convert.To(m, p.heap, kind)
	again, errnoAgain := convert.To(nil, p.heap, kind)
	if errno != api.OK || errnoAgain != api.OK {
		t.Fatalf("%s: %v, without a meter %v", what, errno, errnoAgain)
	}
	drain.Sorted(wanted, p.heap)
	want := ownOf(of(t, wanted, kind, p.row...))
	if ownOf(got) != want || ownOf(again) != want || got.Kind() != kind {
		t.Fatalf("%s is %v, without a meter %v, want %v", what, ownOf(got), ownOf(again), want)
	}
	counted(t, what, m, split(wanted))
	p.stays(t, what, was)
	q := pair{got, p.row}
	q.has(t, what)
	pair{again, p.row}.has(t, what)
	return q
}

// toQueue is Queue by a meter of its own, and without one; it fails, unless that is the queue of the first element of each key, put in in order, by just the steps of Sorted and of Of.
func (p pair) toQueue(t *testing.T) search {
	t.Helper()
	what := p.what("Queue")
	was, m, wanted := ownOf(p.heap), meter.New(), meter.New()
	got, errno := convert.Queue(m, p.heap)
	again, errnoAgain := convert.Queue(nil, p.heap)
	if errno != api.OK || errnoAgain != api.OK {
		t.Fatalf("%s: %v, without a meter %v", what, errno, errnoAgain)
	}
	s := search{got, leasts(p.row)}
	drain.Sorted(wanted, p.heap)
	want := ownOfQueue(pennant.Of(wanted, s.keys.inOrder()...))
	if ownOfQueue(got) != want || ownOfQueue(again) != want {
		t.Fatalf("%s is %v, without a meter %v, want %v", what, ownOfQueue(got), ownOfQueue(again), want)
	}
	counted(t, what, m, split(wanted))
	p.stays(t, what, was)
	s.has(t, what)
	search{again, s.keys}.has(t, what)
	return s
}

// toHeap is Heap by a meter of its own, and without one; it fails, unless that is the heap of the elements by rising keys, by just the steps of Of.
func (s search) toHeap(t *testing.T, kind int) pair {
	t.Helper()
	what := s.what("Heap " + strconv.Itoa(kind))
	was, m, wanted := ownOfQueue(s.queue), meter.New(), meter.New()
	got, errno := convert.Heap(m, s.queue, kind)
	again, errnoAgain := convert.Heap(nil, s.queue, kind)
	if errno != api.OK || errnoAgain != api.OK {
		t.Fatalf("%s: %v, without a meter %v", what, errno, errnoAgain)
	}
	want := ownOf(of(t, wanted, kind, s.keys.byKeys()...))
	if ownOf(got) != want || ownOf(again) != want || got.Kind() != kind {
		t.Fatalf("%s is %v, without a meter %v, want %v", what, ownOf(got), ownOf(again), want)
	}
	counted(t, what, m, split(wanted))
	s.stays(t, what, was)
	p := pair{got, s.keys.inOrder()}
	p.has(t, what)
	pair{again, p.row}.has(t, what)
	return p
}

// back fails, unless a heap that is made another kind, and back, has the same elements; and of a heap that is made a queue, and a heap, just the first one of each key is left.
func (p pair) back(t *testing.T) {
	t.Helper()
	own := p.heap.Kind()
	for _, kind := range kinds() {
		turned := p.to(t, kind).to(t, own)
		if !drain.Same(turned.heap, p.heap) || !drain.Same(p.heap, turned.heap) || turned.heap.Kind() != own {
			t.Fatalf("%s, and back, is %s", p.what("To "+strconv.Itoa(kind)), turned.heap.Show())
		}
	}
	first := p.toQueue(t)
	for _, kind := range kinds() {
		once := first.toHeap(t, kind)
		if !slices.Equal(once.row, leasts(p.row).inOrder()) {
			t.Fatalf("%s, and as a heap of kind %d, is %v", p.what("Queue"), kind, once.row)
		}
	}
}

// back fails, unless a queue that is made a heap, and a queue again, has the same elements.
func (s search) back(t *testing.T) {
	t.Helper()
	for _, kind := range kinds() {
		turned := s.toHeap(t, kind).toQueue(t)
		if got := turned.queue.All(); !slices.Equal(got, s.queue.All()) {
			t.Fatalf("%s, and back, is %v", s.what("Heap "+strconv.Itoa(kind)), got)
		}
	}
}

// noHeap fails, unless a call was refused: no heap of a kind.
func noHeap(t *testing.T, what string, h heap.Heap, errno api.Errno) {
	t.Helper()
	if errno != 22 {
		t.Fatalf("%s: %v, want 22", what, errno)
	}
	if h != (heap.Heap{}) || h.Kind() != 0 || h.Size() != 0 || h.Show() != "" {
		t.Fatalf("%s: refused, and yet a heap of kind %d: %s", what, h.Kind(), h.Show())
	}
}

// noQueue fails, unless a call was refused: no queue.
func noQueue(t *testing.T, what string, q pennant.Queue, errno api.Errno) {
	t.Helper()
	if errno != 22 {
		t.Fatalf("%s: %v, want 22", what, errno)
	}
	if q != (pennant.Queue{}) || q.Size() != 0 || q.Show() != "." {
		t.Fatalf("%s: refused, and yet a queue: %s", what, q.Show())
	}
}

// P17.1: the queue of {1:7, 2:7}: 1:7, whatever the kind, and whichever was put in first.
func TestExample(t *testing.T) {
	for _, kind := range kinds() {
		for _, l := range [][]api.Elem{{el(1, 7), el(2, 7)}, {el(2, 7), el(1, 7)}} {
			q, errno := convert.Queue(nil, of(t, nil, kind, l...))
			if got := q.Show(); got != "<1:7 . 7>" || errno != api.OK {
				t.Errorf("Queue of kind %d, of %v = %s, %v", kind, l, got, errno)
			}
			pairOf(t, kind, l...).toQueue(t)
		}
	}
}

// written are texts and steps, written out.
type written struct {
	kind int
	text string
	// sorted are the steps of Sorted of the heap of 2:0, 1:0, 3:0.
	sorted steps
	// of are the steps of putting 1:0, 2:0, 3:0 in.
	of steps
}

// to123 are To of a heap of 2:0, 1:0, 3:0: the heap of 1:0, 2:0, 3:0.
func to123() []written {
	return []written{
		{heap.Leftist, "(1:0 (2:0 . .) (3:0 . .))", steps{1, 1}, steps{2, 5}},
		{heap.Binomial, "(3:0) (1:0 (2:0))", steps{3, 1}, steps{1, 4}},
		{heap.Pairing, "(1:0 (3:0) (2:0))", steps{1, 1}, steps{2, 5}},
		{heap.Skew, "(1:0 +3:0 (2:0))", steps{2, 1}, steps{2, 4}},
		{heap.Rooted, "1:0 (3:0) (2:0)", steps{2, 2}, steps{2, 5}},
		{heap.Boot, "[1:0 [3:0] [2:0]]", steps{2, 2}, steps{2, 7}},
	}
}

// P17.1: texts and steps of To, written out, from each kind to each, and to its own too.
func TestToWrittenOut(t *testing.T) {
	for _, from := range to123() {
		for _, r := range to123() {
			m := meter.New()
			got, errno := convert.To(m, of(t, nil, from.kind, els(2, 1, 3)...), r.kind)
			if errno != api.OK || got.Kind() != r.kind || got.Show() != r.text {
				t.Fatalf("To %d of kind %d is %s of kind %d, %v, want %s", r.kind, from.kind, got.Show(), got.Kind(), errno, r.text)
			}
			counted(t, "To "+strconv.Itoa(r.kind)+" of kind "+strconv.Itoa(from.kind), m, from.sorted.plus(r.of))
		}
	}
}

// P17.1: to its own kind, too, a heap is made anew: of the elements in order, not as they were put in.
func TestToOwnKindAnew(t *testing.T) {
	for _, r := range []struct {
		kind     int
		was, now string
	}{
		{heap.Leftist, "(1:0 (2:0 (3:0 . .) .) .)", "(1:0 (2:0 . .) (3:0 . .))"},
		{heap.Binomial, "(1:0) (2:0 (3:0))", "(3:0) (1:0 (2:0))"},
		{heap.Pairing, "(1:0 (2:0 (3:0)))", "(1:0 (3:0) (2:0))"},
		{heap.Skew, "(1:0 +2:0 (3:0))", "(1:0 +3:0 (2:0))"},
		{heap.Rooted, "1:0 (2:0) (3:0)", "1:0 (3:0) (2:0)"},
		{heap.Boot, "[1:0 [2:0 [3:0]]]", "[1:0 [3:0] [2:0]]"},
	} {
		p := pairOf(t, r.kind, els(3, 2, 1)...)
		if got := p.heap.Show(); got != r.was {
			t.Fatalf("%s is %s, want %s", p.what("a heap"), got, r.was)
		}
		if got := p.to(t, r.kind).heap.Show(); got != r.now {
			t.Errorf("%s is %s, want %s", p.what("To its own kind"), got, r.now)
		}
	}
}

// P17.1: steps of Queue, written out: those of Sorted, and of putting in the first element of each key, in order; of none other, and not by rising keys.
func TestQueueWrittenOut(t *testing.T) {
	// of2 are the steps of Sorted of two elements.
	of2 := map[int]steps{
		heap.Leftist: {0, 0}, heap.Binomial: {0, 0}, heap.Pairing: {0, 0},
		// Two trees: a comparison by Min, and one by Pop.
		heap.Skew: {2, 0},
		// A heap made by the first Pop.
		heap.Rooted: {0, 1}, heap.Boot: {0, 1},
	}
	for _, kind := range kinds() {
		for _, r := range []struct {
			l    []api.Elem
			text string
			put  steps
		}{
			{[]api.Elem{el(2, 7), el(1, 7)}, "<1:7 . 7>", steps{0, 0}},
			{[]api.Elem{el(4, 7), el(4, 7)}, "<4:7 . 7>", steps{0, 0}},
			// 2:5 behind 1:9: its key is below 9, and 1:9 stands ahead of it.
			{[]api.Elem{el(2, 5), el(1, 9)}, "<1:9 L(2:5 . 5 .) 9>", steps{2, 1}},
			// 2:9 behind 1:5: its key isn't below 5, 5 is below it, and it doesn't stand ahead of 1:5.
			{[]api.Elem{el(2, 9), el(1, 5)}, "<1:5 R(2:9 . 5 .) 9>", steps{3, 1}},
			{[]api.Elem{el(1, 9), el(1, 5)}, "<1:5 R(1:9 . 5 .) 9>", steps{3, 1}},
		} {
			m := meter.New()
			q, errno := convert.Queue(m, of(t, nil, kind, r.l...))
			if errno != api.OK || q.Show() != r.text {
				t.Fatalf("Queue of kind %d, of %v = %s, %v, want %s", kind, r.l, q.Show(), errno, r.text)
			}
			counted(t, "Queue of kind "+strconv.Itoa(kind), m, of2[kind].plus(r.put))
		}
	}
}

// P17.1: texts and steps of Heap, written out: the elements are put in by rising keys, not in order.
func TestHeapWrittenOut(t *testing.T) {
	q := pennant.Of(nil, el(2, 3), el(1, 2), el(3, 1))
	for _, r := range []struct {
		kind int
		text string
		want steps
	}{
		{heap.Leftist, "(1:2 (3:1 . .) (2:3 . .))", steps{2, 5}},
		{heap.Binomial, "(2:3) (1:2 (3:1))", steps{1, 4}},
		{heap.Pairing, "(1:2 (2:3) (3:1))", steps{2, 5}},
		{heap.Skew, "(1:2 +2:3 (3:1))", steps{2, 4}},
		{heap.Rooted, "1:2 (2:3) (3:1)", steps{2, 5}},
		{heap.Boot, "[1:2 [2:3] [3:1]]", steps{2, 7}},
	} {
		m := meter.New()
		got, errno := convert.Heap(m, q, r.kind)
		if errno != api.OK || got.Kind() != r.kind || got.Show() != r.text {
			t.Fatalf("Heap %d is %s of kind %d, %v, want %s", r.kind, got.Show(), got.Kind(), errno, r.text)
		}
		counted(t, "Heap "+strconv.Itoa(r.kind), m, r.want)
	}
}

// P17.1: of a heap without a kind, however that came to be, To is ErrKind, whatever the other kind, and Queue is, and no step is counted.
func TestOfNoKind(t *testing.T) {
	refused, _ := heap.Of(nil, 7, els(1, 2)...)
	emptied, _ := of(t, nil, heap.Boot).Pop(nil)
	other, _ := of(t, nil, heap.Skew, els(1)...).Meld(nil, of(t, nil, heap.Rooted, els(2)...))
	m := meter.New()
	for _, h := range []heap.Heap{{}, refused, emptied, other} {
		for _, kind := range append(unkinds(), kinds()...) {
			got, errno := convert.To(m, h, kind)
			noHeap(t, "To "+strconv.Itoa(kind)+" of no kind", got, errno)
			got, errno = convert.To(nil, h, kind)
			noHeap(t, "To "+strconv.Itoa(kind)+" of no kind, without a meter", got, errno)
		}
		q, errno := convert.Queue(m, h)
		noQueue(t, "Queue of no kind", q, errno)
		q, errno = convert.Queue(nil, h)
		noQueue(t, "Queue of no kind, without a meter", q, errno)
	}
	counted(t, "of no kind", m, steps{})
}

// P17.1: to a kind that there isn't To is ErrKind, whatever the heap's own, and no step is counted.
func TestToNoKind(t *testing.T) {
	for _, own := range kinds() {
		for _, l := range [][]api.Elem{nil, els(3), els(1, 1), some(30, 9)} {
			p := pairOf(t, own, l...)
			was, m := ownOf(p.heap), meter.New()
			for _, kind := range unkinds() {
				got, errno := convert.To(m, p.heap, kind)
				noHeap(t, p.what("To "+strconv.Itoa(kind)), got, errno)
				got, errno = convert.To(nil, p.heap, kind)
				noHeap(t, p.what("To "+strconv.Itoa(kind)+", without a meter,"), got, errno)
			}
			counted(t, p.what("To no kind"), m, steps{})
			p.stays(t, "To no kind", was)
		}
	}
}

// P17.1: to a kind that there isn't Heap is ErrKind, whatever the queue, and no step is counted.
func TestHeapOfNoKind(t *testing.T) {
	for _, l := range [][]api.Elem{nil, els(3), {el(1, 2), el(2, 1)}, some(30, 31)} {
		s := searchOf(l...)
		was, m := ownOfQueue(s.queue), meter.New()
		for _, kind := range unkinds() {
			got, errno := convert.Heap(m, s.queue, kind)
			noHeap(t, s.what("Heap "+strconv.Itoa(kind)), got, errno)
			got, errno = convert.Heap(nil, s.queue, kind)
			noHeap(t, s.what("Heap "+strconv.Itoa(kind)+", without a meter,"), got, errno)
		}
		counted(t, s.what("Heap of no kind"), m, steps{})
		s.stays(t, "Heap of no kind", was)
	}
}

// P17.1: an empty heap is the empty one of each kind, and the queue of none; a queue of none is the empty heap of each kind: all by no step.
func TestOfNone(t *testing.T) {
	m := meter.New()
	for _, kind := range kinds() {
		empty, _ := heap.Empty(kind)
		made, _ := convert.Heap(m, pennant.Queue{}, kind)
		if ownOf(made) != ownOf(empty) {
			t.Errorf("Heap of none is %v", ownOf(made))
		}
		q, errno := convert.Queue(m, empty)
		if q.Size() != 0 || q.Show() != "." || errno != api.OK {
			t.Errorf("Queue of an empty heap of kind %d is %s, %v", kind, q.Show(), errno)
		}
		for _, own := range kinds() {
			made, errno := convert.To(m, of(t, nil, own), kind)
			if ownOf(made) != ownOf(empty) || errno != api.OK {
				t.Errorf("To %d of an empty heap of kind %d is %v, %v", kind, own, ownOf(made), errno)
			}
		}
		pairOf(t, kind).back(t)
	}
	counted(t, "of none", m, steps{})
	searchOf().back(t)
}

// P17.1, P17.2: from each kind to each, and as queues, there and back.
func TestHeaps(t *testing.T) {
	for _, l := range rows() {
		for _, kind := range kinds() {
			pairOf(t, kind, l...).back(t)
		}
	}
}

// P17.1, P17.2: from queues to each kind, and back; put in as they come, and half by half.
func TestQueues(t *testing.T) {
	for _, l := range rows() {
		s := searchOf(l...)
		s.back(t)
		halved, errno := pennant.Rising(nil, s.keys.byKeys())
		if errno != api.OK {
			t.Fatalf("Rising: %v", errno)
		}
		search{halved, s.keys}.back(t)
	}
}

// P17.1: of several elements of a key the first one in order stays, in whichever order they were put in.
func TestFirstOfItsKey(t *testing.T) {
	l := []api.Elem{el(-3, 7), el(0, 7), el(0, 8), el(4, 7), el(4, 8)}
	turns(l, 0, func() {
		for _, kind := range kinds() {
			q, errno := convert.Queue(nil, of(t, nil, kind, l...))
			if got := q.All(); errno != api.OK || !slices.Equal(got, []api.Elem{el(-3, 7), el(0, 8)}) {
				t.Fatalf("Queue of kind %d, of %v = %v, %v", kind, l, got, errno)
			}
			pairOf(t, kind, l...).toQueue(t)
		}
	})
}

// turns calls for each order in which the things of a list from one on may stand.
func turns(l []api.Elem, from int, call func()) {
	if from == len(l) {
		call()
		return
	}
	for i := from; i < len(l); i++ {
		l[from], l[i] = l[i], l[from]
		turns(l, from+1, call)
		l[from], l[i] = l[i], l[from]
	}
}

// P17.1: elements of one P and unlike Ids all stay; the same element stays once, however often it is there.
func TestOfOneP(t *testing.T) {
	var alike, often []api.Elem
	for i := range int64(33) {
		alike = append(alike, el(4, i*20%33-16))
		often = append(often, el(-8, 5))
	}
	for _, kind := range kinds() {
		if got := pairOf(t, kind, alike...).toQueue(t).queue.Size(); got != 33 {
			t.Errorf("Queue of kind %d, of 33 elements of one P, has %d", kind, got)
		}
		if got := pairOf(t, kind, often...).toQueue(t).queue.Show(); got != "<-8:5 . 5>" {
			t.Errorf("Queue of kind %d, of one element 33 times, is %s", kind, got)
		}
		if got := pairOf(t, kind, append(often, alike...)...).toQueue(t).keys[5]; got != -8 {
			t.Errorf("Queue of kind %d has the key 5 with %d", kind, got)
		}
	}
}

// P17.1: both ends of what 64 bits hold, as priorities and as keys.
func TestEnds(t *testing.T) {
	var firsts []api.Elem
	for _, id := range []int64{math.MinInt64, math.MinInt64 + 1, -1, 0, 1, math.MaxInt64 - 1, math.MaxInt64} {
		firsts = append(firsts, el(math.MinInt64, id))
	}
	for _, kind := range kinds() {
		p := pairOf(t, kind, edges()...)
		if got := p.toQueue(t).queue.All(); !slices.Equal(got, firsts) {
			t.Errorf("%s = %v", p.what("Queue"), got)
		}
		for _, x := range edges() {
			pairOf(t, kind, x).back(t)
		}
	}
	for _, x := range edges() {
		searchOf(x).back(t)
	}
}

// P17.1: a meter that counted ahead goes on counting: with the steps of what was made on it, and then of each call.
func TestOneMeter(t *testing.T) {
	for _, kind := range kinds() {
		m, want := meter.New(), meter.New()
		h := of(t, m, kind, some(20, 6)...)
		of(t, want, kind, some(20, 6)...)
		for _, other := range kinds() {
			turned, _ := convert.To(m, h, other)
			convert.To(m, h, 0)
			of(t, want, other, drain.Sorted(want, h)...)
			counted(t, "To "+strconv.Itoa(other)+" of kind "+strconv.Itoa(kind), m, split(want))
			q, _ := convert.Queue(m, turned)
			convert.Queue(m, heap.Heap{})
			drain.Sorted(want, turned)
			pennant.Of(want, leasts(some(20, 6)).inOrder()...)
			counted(t, "Queue of kind "+strconv.Itoa(other), m, split(want))
			convert.Heap(m, q, kind)
			convert.Heap(m, q, 7)
			of(t, want, kind, leasts(some(20, 6)).byKeys()...)
			counted(t, "Heap "+strconv.Itoa(kind), m, split(want))
		}
	}
}

// insert, meld and pop are those of a heap, and of its row.
func (p pair) insert(t *testing.T, x api.Elem) pair {
	t.Helper()
	h, errno := p.heap.Insert(nil, x)
	if errno != api.OK {
		t.Fatalf("%s: %v", p.what("Insert"), errno)
	}
	return pair{h, with(p.row, x)}
}

func (p pair) meld(t *testing.T, o pair) pair {
	t.Helper()
	h, errno := p.heap.Meld(nil, o.heap)
	if errno != api.OK {
		t.Fatalf("%s: %v", p.what("Meld"), errno)
	}
	return pair{h, with(p.row, o.row...)}
}

func (p pair) pop(t *testing.T) pair {
	t.Helper()
	if len(p.row) == 0 {
		return p
	}
	h, errno := p.heap.Pop(nil)
	if errno != api.OK {
		t.Fatalf("%s: %v", p.what("Pop"), errno)
	}
	return pair{h, p.row[1:]}
}

// copied are the keys of a queue, to be changed.
func (s search) copied() keyed {
	keys := keyed{}
	for key, p := range s.keys {
		keys[key] = p
	}
	return keys
}

// insert, delete and pop are those of a queue, and of its map.
func (s search) insert(x api.Elem) search {
	keys := s.copied()
	keys[x.Id] = x.P
	return search{s.queue.Insert(nil, x), keys}
}

func (s search) delete(key int64) search {
	keys := s.copied()
	delete(keys, key)
	q, _ := s.queue.Delete(nil, key)
	return search{q, keys}
}

func (s search) pop() search {
	keys := s.copied()
	if l := s.keys.inOrder(); len(l) > 0 {
		delete(keys, l[0].Id)
	}
	q, _ := s.queue.Pop(nil)
	return search{q, keys}
}

// random is numbers one after the other, the same ones each time.
type random uint64

func (r *random) below(n int64) int64 {
	*r = *r*6364136223846793005 + 1442695040888963407
	return int64(uint64(*r) >> 33 % uint64(n))
}

// kind is one of the six.
func (r *random) kind() int { return kinds()[r.below(6)] }

// span is of which numbers elements are.
type span struct{ priorities, ids int64 }

func (r *random) elem(s span) api.Elem {
	return el(r.below(s.priorities)-s.priorities/2, r.below(s.ids)-s.ids/2)
}

// spans are such that many elements are the same, many are of one key, of one priority, and none.
func spans() []span { return []span{{3, 2}, {1000, 4}, {2, 1000}, {12, 12}, {1 << 40, 1 << 40}} }

// history is versions of heaps, and of queues, made one of the other.
type history struct {
	heaps  []pair
	queues []search
}

// heap and queue are versions, any ones.
func (v *history) heap(r *random) pair    { return v.heaps[r.below(int64(len(v.heaps)))] }
func (v *history) queue(r *random) search { return v.queues[r.below(int64(len(v.queues)))] }

// next is a heap made of those that are there, by an operation or more.
func (v *history) next(t *testing.T, r *random, s span) pair {
	a, b := v.heap(r), v.heaps[len(v.heaps)-1]
	switch r.below(6) {
	case 0, 1:
		return b.insert(t, r.elem(s)).insert(t, r.elem(s))
	case 2:
		return b.meld(t, a.to(t, b.heap.Kind()))
	case 3:
		return b.pop(t)
	case 4:
		return a.to(t, r.kind()).insert(t, r.elem(s))
	default:
		return v.queue(r).toHeap(t, r.kind()).insert(t, r.elem(s))
	}
}

// nextQueue is a queue made of those that are there, by an operation or more.
func (v *history) nextQueue(t *testing.T, r *random, s span) search {
	a, b := v.queue(r), v.queues[len(v.queues)-1]
	switch r.below(6) {
	case 0, 1:
		return b.insert(r.elem(s)).insert(r.elem(s))
	case 2:
		return b.delete(r.elem(s).Id).insert(r.elem(s))
	case 3:
		return b.pop()
	case 4:
		return a.toHeap(t, r.kind()).toQueue(t).insert(r.elem(s))
	default:
		return v.heap(r).toQueue(t).insert(r.elem(s))
	}
}

// P17.1, P17.2: heaps and queues made by many operations, of all kinds, and of each other, are made what their rows and maps tell; and what others were made of stays what it was.
func TestHistories(t *testing.T) {
	r := random(17)
	for _, s := range spans() {
		v := &history{[]pair{pairOf(t, r.kind()), pairOf(t, r.kind(), r.elem(s))}, []search{searchOf(), searchOf(r.elem(s))}}
		for range 60 {
			p, q := v.next(t, &r, s), v.nextQueue(t, &r, s)
			if len(p.row) > 50 {
				p = pairOf(t, r.kind(), r.elem(s), r.elem(s))
			}
			if len(q.keys) > 50 {
				q = searchOf(r.elem(s), r.elem(s))
			}
			p.back(t)
			q.back(t)
			v.heaps, v.queues = append(v.heaps, p), append(v.queues, q)
		}
		for _, p := range v.heaps {
			p.has(t, "behind all")
		}
		for _, q := range v.queues {
			q.has(t, "behind all")
		}
	}
}

// P17.1, P17.2: heaps that were made each in a way of its own, of the same elements, are made the same heap, and the same queue, whatever their kind.
func TestHoweverMade(t *testing.T) {
	for _, l := range [][]api.Elem{els(1, 2, 3, 2), some(30, 5), some(40, 41)} {
		for _, kind := range kinds() {
			turned := slices.Clone(l)
			slices.Reverse(turned)
			single := pairOf(t, kind)
			for _, x := range l {
				single = pairOf(t, kind, x).meld(t, single)
			}
			least := el(math.MinInt64, 3)
			for _, p := range []pair{
				pairOf(t, kind, turned...), pairOf(t, kind, l[:len(l)/3]...).meld(t, pairOf(t, kind, l[len(l)/3:]...)), single,
				pairOf(t, kind, append(turned, least)...).insert(t, least).pop(t).pop(t),
			} {
				for _, other := range kinds() {
					if got, want := p.to(t, other).heap.Show(), of(t, nil, other, with(nil, l...)...).Show(); got != want {
						t.Fatalf("%s is %s, want %s", p.what("To "+strconv.Itoa(other)), got, want)
					}
				}
				if got, want := p.toQueue(t).queue.Show(), pennant.Of(nil, leasts(l).inOrder()...).Show(); got != want {
					t.Fatalf("%s is %s, want %s", p.what("Queue"), got, want)
				}
			}
		}
	}
}

// P17.1, P17.2: many elements, in an order of their own.
func TestMany(t *testing.T) {
	const n = 1 << 11
	var l []api.Elem
	for i := range int64(n) {
		l = append(l, el(i*2741%4099%511, i*7%1237-600))
	}
	row := with(nil, l...)
	for i, kind := range kinds() {
		p := pair{of(t, nil, kind, l...), row}
		p.to(t, kinds()[(i+1)%6]).to(t, kind)
		s := p.toQueue(t)
		if got := s.queue.Size(); got != 1237 {
			t.Errorf("%s has %d", p.what("Queue"), got)
		}
		s.toHeap(t, kind).toQueue(t)
	}
}
