package heap_test

import (
	"math"
	"slices"
	"strconv"
	"testing"

	"slagheap/api"
	"slagheap/binomial"
	"slagheap/boot"
	"slagheap/heap"
	"slagheap/leftist"
	"slagheap/meter"
	"slagheap/pairing"
	"slagheap/rooted"
	"slagheap/skew"
)

// own is a heap by the calls of its layer alone.
type own struct {
	heap   any
	insert func(m *meter.Meter, x api.Elem) own
	meld   func(m *meter.Meter, o own) own
	min    func(m *meter.Meter) (api.Elem, bool)
	pop    func(m *meter.Meter) (own, bool)
	size   func() int
	show   func() string
}

// calls are those of a layer, H being its heap.
type calls[H any] interface {
	Insert(m *meter.Meter, x api.Elem) H
	Meld(m *meter.Meter, o H) H
	Min(m *meter.Meter) (api.Elem, bool)
	Pop(m *meter.Meter) (H, bool)
	Size() int
	Show() string
}

func ownBy[H calls[H]](h H) own {
	return own{
		heap:   h,
		insert: func(m *meter.Meter, x api.Elem) own { return ownBy(h.Insert(m, x)) },
		meld:   func(m *meter.Meter, o own) own { return ownBy(h.Meld(m, o.heap.(H))) },
		min:    h.Min,
		pop: func(m *meter.Meter) (own, bool) {
			others, is := h.Pop(m)
			return ownBy(others), is
		},
		size: h.Size,
		show: h.Show,
	}
}

// layerOf is the elements put into the empty heap of the kind of that number, by its layer's Of.
func layerOf(m *meter.Meter, kind int, l ...api.Elem) own {
	switch kind {
	case 1:
		return ownBy(leftist.Of(m, l...))
	case 2:
		return ownBy(binomial.Of(m, l...))
	case 3:
		return ownBy(pairing.Of(m, l...))
	case 4:
		return ownBy(skew.Of(m, l...))
	case 5:
		return ownBy(rooted.Of(m, l...))
	default:
		return ownBy(boot.Of(m, l...))
	}
}

// kinds are the six kinds' numbers.
func kinds() []int { return []int{1, 2, 3, 4, 5, 6} }

// unkinds are numbers of no kind.
func unkinds() []int {
	return []int{0, 7, 8, -1, -2, -6, 255, 257, 1<<16 + 1, 1<<32 + 1, 1<<32 + 6, math.MinInt, math.MinInt + 1, math.MaxInt - 1, math.MaxInt}
}

// el is the element p:0.
func el(p int64) api.Elem { return api.Elem{P: p} }

// els are the elements p:0.
func els(ps ...int64) []api.Elem {
	var l []api.Elem
	for _, p := range ps {
		l = append(l, el(p))
	}
	return l
}

// some are so many elements, in an order of their own, several of them the same.
func some(n int) []api.Elem {
	var l []api.Elem
	for i := range int64(n) {
		l = append(l, api.Elem{P: i*37%23 - 9, Id: i % 3})
	}
	return l
}

// edges are elements at both ends of what 64 bits hold, and between.
func edges() []api.Elem {
	var l []api.Elem
	ends := []int64{math.MaxInt64, 0, math.MinInt64, -1, 1, math.MinInt64 + 1, math.MaxInt64 - 1}
	for _, p := range ends {
		for _, id := range ends {
			l = append(l, api.Elem{P: p, Id: id})
		}
	}
	return l
}

// rows are lists of elements: none, one, a few, equal ones, those that differ by their ids alone, many, and the ends of what there may be.
func rows() [][]api.Elem {
	return [][]api.Elem{
		nil, {}, els(5), {{P: -5, Id: 3}}, els(2, 1, 3), els(1, 2), els(2, 1), els(1, 1), els(1, 1, 1, 1, 1),
		{{P: 1, Id: 5}, {P: 1, Id: 4}, {P: 1, Id: 6}}, els(1, 2, 3, 4, 5, 6, 7, 8, 9), els(9, 8, 7, 6, 5, 4, 3, 2, 1),
		some(16), some(100), edges(),
	}
}

// before is the order of elements, by what the document says of it.
func before(a, b api.Elem) bool { return a.P < b.P || a.P == b.P && a.Id < b.Id }

// with is a row in order with elements more, each one put behind all that don't stand behind it.
func with(row []api.Elem, l ...api.Elem) []api.Elem {
	row = slices.Clone(row)
	for _, x := range l {
		i := 0
		for i < len(row) && !before(x, row[i]) {
			i++
		}
		row = slices.Insert(row, i, x)
	}
	return row
}

// steps is how many comparisons there are, and how many things made.
type steps struct{ compared, made int }

func split(m *meter.Meter) steps {
	compared, made := m.Split()
	return steps{compared, made}
}

// counted fails, unless so many comparisons and things made were counted since the meter was new.
func counted(t *testing.T, what string, m *meter.Meter, want steps) {
	t.Helper()
	if got := split(m); got != want {
		t.Fatalf("%s: %d comparisons, %d made, want %d, %d", what, got.compared, got.made, want.compared, want.made)
	}
}

// pair is a heap, and what it has to be for ever: its kind, the heap of its layer, and all its elements, in order.
type pair struct {
	kind int
	heap heap.Heap
	want own
	row  []api.Elem
}

// what is a call of a pair, for whoever reads that it failed.
func (p pair) what(call string) string {
	return call + " of kind " + strconv.Itoa(p.kind) + ", of " + p.want.show()
}

// holds fails, unless a heap tells all that it has to tell, Min by its layer's steps.
func (p pair) holds(t *testing.T, what string) {
	t.Helper()
	what = p.what(what)
	if got := p.heap.Kind(); got != p.kind {
		t.Fatalf("%s: Kind() = %d", what, got)
	}
	if got := p.heap.Size(); got != p.want.size() || got != len(p.row) {
		t.Fatalf("%s: Size() = %d, want %d, and %d", what, got, p.want.size(), len(p.row))
	}
	if got := p.heap.Show(); got != p.want.show() {
		t.Fatalf("%s: Show() = %s", what, got)
	}
	var least api.Elem
	wanted := api.ErrEmpty
	if len(p.row) > 0 {
		least, wanted = p.row[0], api.OK
	}
	m, layer := meter.New(), meter.New()
	got, errno := p.heap.Min(m)
	p.want.min(layer)
	if again, errnoAgain := p.heap.Min(nil); got != least || again != least || errno != wanted || errnoAgain != wanted {
		t.Fatalf("%s: Min() = %v, %v, without a meter %v, %v, want %v, %v", what, got, errno, again, errnoAgain, least, wanted)
	}
	counted(t, what+": Min", m, split(layer))
}

// is fails, unless there is no error, just the layer's steps were made, and the heap that came of a call, with a meter and without, is what it has to be.
func (p pair) is(t *testing.T, what string, errno api.Errno, m, layer *meter.Meter, again heap.Heap, errnoAgain api.Errno) pair {
	t.Helper()
	if errno != api.OK || errnoAgain != api.OK {
		t.Fatalf("%s: %v, without a meter %v", p.what(what), errno, errnoAgain)
	}
	counted(t, p.what(what), m, split(layer))
	p.holds(t, what)
	pair{p.kind, again, p.want, p.row}.holds(t, what+" without a meter")
	return p
}

// of is Of by a meter of its own, and without one.
func of(t *testing.T, kind int, l ...api.Elem) pair {
	t.Helper()
	m, layer := meter.New(), meter.New()
	h, errno := heap.Of(m, kind, l...)
	p := pair{kind, h, layerOf(layer, kind, l...), with(nil, l...)}
	again, errnoAgain := heap.Of(nil, kind, l...)
	return p.is(t, "Of", errno, m, layer, again, errnoAgain)
}

// insert is Insert by a meter of its own, and without one.
func (p pair) insert(t *testing.T, x api.Elem) pair {
	t.Helper()
	m, layer := meter.New(), meter.New()
	h, errno := p.heap.Insert(m, x)
	q := pair{p.kind, h, p.want.insert(layer, x), with(p.row, x)}
	again, errnoAgain := p.heap.Insert(nil, x)
	return q.is(t, "Insert", errno, m, layer, again, errnoAgain)
}

// meld is Meld of two of a kind by a meter of its own, and without one.
func (p pair) meld(t *testing.T, o pair) pair {
	t.Helper()
	m, layer := meter.New(), meter.New()
	h, errno := p.heap.Meld(m, o.heap)
	q := pair{p.kind, h, p.want.meld(layer, o.want), with(p.row, o.row...)}
	again, errnoAgain := p.heap.Meld(nil, o.heap)
	return q.is(t, "Meld", errno, m, layer, again, errnoAgain)
}

// pop is Pop by a meter of its own, and without one; where there are no elements it is refused, and the pair is told as it was.
func (p pair) pop(t *testing.T) pair {
	t.Helper()
	m, layer := meter.New(), meter.New()
	h, errno := p.heap.Pop(m)
	again, errnoAgain := p.heap.Pop(nil)
	if len(p.row) == 0 {
		refused(t, p.what("Pop"), h, errno, api.ErrEmpty)
		refused(t, p.what("Pop without a meter"), again, errnoAgain, api.ErrEmpty)
		counted(t, p.what("Pop"), m, steps{})
		return p
	}
	want, _ := p.want.pop(layer)
	q := pair{p.kind, h, want, p.row[1:]}
	return q.is(t, "Pop", errno, m, layer, again, errnoAgain)
}

// refused fails, unless there is that error, and the heap that is told has no kind.
func refused(t *testing.T, what string, h heap.Heap, errno, want api.Errno) {
	t.Helper()
	if errno != want || h.Kind() != 0 || h.Size() != 0 || h.Show() != "" {
		t.Fatalf("%s: %v, Kind() = %d, Size() = %d, Show() = %q, want %v, and no kind", what, errno, h.Kind(), h.Size(), h.Show(), want)
	}
	m := meter.New()
	if _, errno := h.Insert(m, el(1)); errno != api.ErrKind {
		t.Fatalf("%s: Insert into what is told: %v", what, errno)
	}
	counted(t, what, m, steps{})
}

// emptied fails, unless Pop after Pop tells all elements of a heap, in order, and then that there is none.
func (p pair) emptied(t *testing.T, what string) {
	t.Helper()
	q := p
	for range p.row {
		q = q.pop(t)
	}
	q.pop(t)
	if len(q.row) != 0 || q.heap.Kind() != p.kind || q.heap.Size() != 0 || q.heap.Show() != "." {
		t.Fatalf("%s: all popped: Kind() = %d, Size() = %d, Show() = %s", p.what(what), q.heap.Kind(), q.heap.Size(), q.heap.Show())
	}
	p.holds(t, what+", from which all was popped")
}

// shows fails, unless a heap's text is this one, written out.
func (p pair) shows(t *testing.T, what, want string) {
	t.Helper()
	if got := p.heap.Show(); got != want {
		t.Errorf("%s = %s, want %s", p.what(what), got, want)
	}
}

// P15.1: the kinds' numbers, which are constants without a type of their own.
func TestKindNumbers(t *testing.T) {
	const all = heap.Leftist<<0 | heap.Binomial<<4 | heap.Pairing<<8 | heap.Skew<<12 | heap.Rooted<<16 | heap.Boot<<20
	if all != 0x654321 {
		t.Errorf("kinds = %x", all)
	}
	if got := [...]int64{heap.Leftist, heap.Binomial, heap.Pairing, heap.Skew, heap.Rooted, heap.Boot}; got != [...]int64{1, 2, 3, 4, 5, 6} {
		t.Errorf("kinds = %v", got)
	}
	if heap.Leftist/2 != 0 {
		t.Error("kinds are no integers")
	}
}

// P15.2: Meld of a leftist heap and a pairing one: ErrKind.
func TestExample(t *testing.T) {
	a, _ := heap.Of(nil, heap.Leftist, els(2, 1, 3)...)
	b, _ := heap.Of(nil, heap.Pairing, els(2, 1, 3)...)
	m := meter.New()
	h, errno := a.Meld(m, b)
	refused(t, "Meld of a leftist heap and a pairing one", h, errno, 22)
	h, errno = b.Meld(m, a)
	refused(t, "Meld of a pairing heap and a leftist one", h, errno, 22)
	counted(t, "the example", m, steps{})
}

// P15.1: of a kind that there isn't: ErrKind, a heap that has no kind, and no step, whatever there is to put in.
func TestNoSuchKind(t *testing.T) {
	for _, kind := range unkinds() {
		what := "kind " + strconv.Itoa(kind)
		h, errno := heap.Empty(kind)
		refused(t, "Empty of "+what, h, errno, 22)
		m := meter.New()
		for _, l := range rows() {
			h, errno = heap.Of(m, kind, l...)
			refused(t, "Of "+what, h, errno, 22)
			h, errno = heap.Of(nil, kind, l...)
			refused(t, "Of "+what+" without a meter", h, errno, 22)
		}
		counted(t, "Of "+what, m, steps{})
	}
}

// P15.1, P15.2: each kind's empty heap is its layer's, whoever makes it.
func TestEmpty(t *testing.T) {
	for _, kind := range kinds() {
		made, errno := heap.Empty(kind)
		if errno != api.OK {
			t.Fatalf("Empty(%d): %v", kind, errno)
		}
		none := pair{kind, made, layerOf(nil, kind), nil}
		for _, p := range []pair{none, of(t, kind), of(t, kind, []api.Elem{}...), of(t, kind, el(4)).pop(t), of(t, kind, els(2, 1, 3)...).pop(t).pop(t).pop(t), none.meld(t, none)} {
			p.holds(t, "empty")
			p.shows(t, "empty", ".")
			m := meter.New()
			if x, errno := p.heap.Min(m); x != (api.Elem{}) || errno != 23 {
				t.Errorf("%s = %v, %v", p.what("Min"), x, errno)
			}
			h, errno := p.heap.Pop(m)
			refused(t, p.what("Pop"), h, errno, 23)
			if h, errno := p.heap.Meld(m, none.heap); h.Kind() != kind || h.Size() != 0 || errno != api.OK {
				t.Errorf("%s: Kind() = %d, Size() = %d, %v", p.what("Meld"), h.Kind(), h.Size(), errno)
			}
			if h, errno := heap.Of(m, kind); h.Kind() != kind || h.Size() != 0 || errno != api.OK {
				t.Errorf("%s: Kind() = %d, Size() = %d, %v", p.what("Of none"), h.Kind(), h.Size(), errno)
			}
			counted(t, p.what("Min, Pop, Meld and Of"), m, steps{})
			p.insert(t, el(7)).emptied(t, "Insert into the empty heap")
			p.emptied(t, "empty")
			p.holds(t, "empty, from which others were made")
		}
	}
}

// P15.1: Of is each layer's Of: of none, of one, of a few and of many, of those that are the same.
func TestOf(t *testing.T) {
	for _, kind := range kinds() {
		for _, l := range rows() {
			p := of(t, kind, l...)
			p.emptied(t, "Of")
			// One by one, in order, into the empty heap.
			q := of(t, kind)
			for _, x := range l {
				q = q.insert(t, x)
			}
			q.shows(t, "put in one by one", p.heap.Show())
		}
	}
}

// P15.1, P15.2: what comes of the same calls, and by how many comparisons and things made, written out for each kind.
func TestWrittenOut(t *testing.T) {
	rows := []struct {
		kind                     int
		one, few, same           string
		ofOne, ofFew, ofSame     steps
		inserted, melded, popped string
		insert, meld, pop, minOf steps
	}{
		{
			kind: heap.Leftist,
			one:  "(5:0 . .)", few: "(1:0 (2:0 . .) (3:0 . .))", same: "(1:0 (1:0 (1:0 . .) .) .)",
			ofOne: steps{0, 1}, ofFew: steps{2, 5}, ofSame: steps{2, 5},
			inserted: "(0:0 (1:0 (2:0 . .) (3:0 . .)) .)", insert: steps{1, 2},
			melded: "(1:0 (2:0 . .) (3:0 (4:0 . .) .))", meld: steps{2, 2},
			popped: "(2:0 (3:0 . .) .)", pop: steps{1, 1},
		},
		{
			kind: heap.Binomial,
			one:  "(5:0)", few: "(3:0) (1:0 (2:0))", same: "(1:0) (1:0 (1:0))",
			ofOne: steps{0, 1}, ofFew: steps{1, 4}, ofSame: steps{1, 4},
			inserted: "(0:0 (1:0 (2:0)) (3:0))", insert: steps{2, 3},
			melded: "(1:0 (3:0 (4:0)) (2:0))", meld: steps{2, 2},
			popped: "(2:0 (3:0))", pop: steps{2, 1}, minOf: steps{1, 0},
		},
		{
			kind: heap.Pairing,
			one:  "(5:0)", few: "(1:0 (3:0) (2:0))", same: "(1:0 (1:0 (1:0)))",
			ofOne: steps{0, 1}, ofFew: steps{2, 5}, ofSame: steps{2, 5},
			inserted: "(0:0 (1:0 (3:0) (2:0)))", insert: steps{1, 2},
			melded: "(1:0 (4:0) (3:0) (2:0))", meld: steps{1, 1},
			popped: "(2:0 (3:0))", pop: steps{1, 1},
		},
		{
			kind: heap.Skew,
			one:  "(5:0)", few: "(1:0 +3:0 (2:0))", same: "(1:0 +1:0 (1:0))",
			ofOne: steps{0, 1}, ofFew: steps{2, 4}, ofSame: steps{2, 4},
			inserted: "(0:0) (1:0 +3:0 (2:0))", insert: steps{0, 1},
			melded: "(4:0) (1:0 +3:0 (2:0))",
			popped: "(3:0) (2:0)", pop: steps{0, 1},
		},
		{
			kind: heap.Rooted,
			one:  "5:0 .", few: "1:0 (3:0) (2:0)", same: "1:0 (1:0) (1:0)",
			ofOne: steps{0, 1}, ofFew: steps{2, 5}, ofSame: steps{2, 5},
			inserted: "0:0 (1:0 +2:0 (3:0))", insert: steps{3, 3},
			melded: "1:0 (4:0) (2:0 (3:0))", meld: steps{2, 3},
			popped: "2:0 (3:0)", pop: steps{2, 1},
		},
		{
			kind: heap.Boot,
			one:  "[5:0]", few: "[1:0 [3:0] [2:0]]", same: "[1:0 [1:0 [1:0]]]",
			ofOne: steps{0, 1}, ofFew: steps{2, 7}, ofSame: steps{2, 7},
			inserted: "[0:0 [1:0 [3:0] [2:0]]]", insert: steps{1, 3},
			melded: "[1:0 [2:0] [4:0] [3:0]]", meld: steps{3, 3},
			popped: "[2:0 [3:0]]", pop: steps{2, 1},
		},
	}
	for _, r := range rows {
		m := meter.New()
		was := steps{}
		// told holds a heap against its text, and what was counted since it was told last.
		told := func(what string, h heap.Heap, errno api.Errno, text string, size int, by steps) {
			t.Helper()
			if errno != api.OK || h.Kind() != r.kind || h.Size() != size || h.Show() != text {
				t.Errorf("kind %d: %s: %v, Kind() = %d, Size() = %d, Show() = %s, want %s", r.kind, what, errno, h.Kind(), h.Size(), h.Show(), text)
			}
			counted(t, "kind "+strconv.Itoa(r.kind)+": "+what, m, steps{was.compared + by.compared, was.made + by.made})
			was = split(m)
		}
		none, errno := heap.Of(m, r.kind)
		told("Of none", none, errno, ".", 0, steps{})
		one, errno := heap.Of(m, r.kind, el(5))
		told("Of one", one, errno, r.one, 1, r.ofOne)
		into, errno := none.Insert(m, el(5))
		told("Insert into the empty heap", into, errno, r.one, 1, r.ofOne)
		same, errno := heap.Of(m, r.kind, els(1, 1, 1)...)
		told("Of the same", same, errno, r.same, 3, r.ofSame)
		few, errno := heap.Of(m, r.kind, els(2, 1, 3)...)
		told("Of a few", few, errno, r.few, 3, r.ofFew)
		inserted, errno := few.Insert(m, el(0))
		told("Insert", inserted, errno, r.inserted, 4, r.insert)
		another, _ := heap.Of(nil, r.kind, el(4))
		melded, errno := few.Meld(m, another)
		told("Meld", melded, errno, r.melded, 4, r.meld)
		left, errno := none.Meld(m, few)
		told("Meld of none and a few", left, errno, few.Show(), 3, steps{})
		x, errno := few.Min(m)
		if x != el(1) {
			t.Errorf("kind %d: Min() = %v", r.kind, x)
		}
		told("Min", few, errno, r.few, 3, r.minOf)
		popped, errno := few.Pop(m)
		told("Pop", popped, errno, r.popped, 2, r.pop)
		last, errno := one.Pop(m)
		told("Pop of one", last, errno, ".", 0, steps{})
	}
}

// P15.1: what is handed to Of isn't changed, and isn't kept.
func TestOfKeepsNothing(t *testing.T) {
	for _, kind := range kinds() {
		l := els(4, 2, 2, 9, -1)
		given := slices.Clone(l)
		h, _ := heap.Of(nil, kind, l...)
		if !slices.Equal(l, given) {
			t.Errorf("Of changed its list: %v", l)
		}
		clear(l)
		p := pair{kind, h, layerOf(nil, kind, given...), with(nil, given...)}
		p.holds(t, "behind a change of the list")
		p.emptied(t, "behind a change of the list")
	}
}

// P15.1, P15.2: a heap's zero value has no kind, and so nothing is done with it, by no step.
func TestZero(t *testing.T) {
	var zero heap.Heap
	if zero.Kind() != 0 || zero.Size() != 0 || zero.Show() != "" {
		t.Errorf("Kind() = %d, Size() = %d, Show() = %q", zero.Kind(), zero.Size(), zero.Show())
	}
	for _, m := range []*meter.Meter{meter.New(), nil} {
		for _, x := range edges() {
			h, errno := zero.Insert(m, x)
			refused(t, "Insert into the zero heap", h, errno, 22)
		}
		h, errno := zero.Meld(m, zero)
		refused(t, "Meld of the zero heap with itself", h, errno, 22)
		h, errno = zero.Pop(m)
		refused(t, "Pop of the zero heap", h, errno, 22)
		if x, errno := zero.Min(m); x != (api.Elem{}) || errno != 22 {
			t.Errorf("Min() = %v, %v", x, errno)
		}
		for _, kind := range kinds() {
			for _, l := range rows() {
				p := of(t, kind, l...)
				h, errno := zero.Meld(m, p.heap)
				refused(t, p.what("Meld of the zero heap and one"), h, errno, 22)
				h, errno = p.heap.Meld(m, zero)
				refused(t, p.what("Meld with the zero heap"), h, errno, 22)
				p.holds(t, "not melded with the zero heap")
			}
		}
		counted(t, "the zero heap", m, steps{})
	}
}

// P15.2: two heaps are melded just if both are of one kind, on whichever side they stand, and empty ones too; else no step is made.
func TestMeldOfKinds(t *testing.T) {
	for _, kind := range kinds() {
		for _, other := range kinds() {
			for _, l := range rows() {
				for _, k := range rows() {
					p, o := of(t, kind, l...), of(t, other, k...)
					if kind == other {
						p.meld(t, o)
					} else {
						m := meter.New()
						h, errno := p.heap.Meld(m, o.heap)
						refused(t, p.what("Meld with another kind"), h, errno, 22)
						h, errno = p.heap.Meld(nil, o.heap)
						refused(t, p.what("Meld with another kind, without a meter"), h, errno, 22)
						counted(t, p.what("Meld with another kind"), m, steps{})
					}
					p.holds(t, "melded")
					o.holds(t, "melded")
				}
			}
		}
	}
}

// P15.2: Meld of one kind: with itself, with an empty one on either side, and of many.
func TestMeld(t *testing.T) {
	for _, kind := range kinds() {
		none := of(t, kind)
		for _, l := range rows() {
			p := of(t, kind, l...)
			twice := p.meld(t, p)
			twice.emptied(t, "melded with itself")
			twice.meld(t, p).emptied(t, "melded with what it was made of")
			behind, ahead := p.meld(t, none), none.meld(t, p)
			// Skew's Meld levels its trees, also where one has none; all others tell the other one.
			if kind != heap.Skew {
				behind.shows(t, "melded with none", p.heap.Show())
				ahead.shows(t, "none melded with", p.heap.Show())
			}
			p.meld(t, of(t, kind, some(30)...)).emptied(t, "melded with many")
			of(t, kind, some(30)...).meld(t, p).emptied(t, "many melded with")
			p.holds(t, "melded")
			none.holds(t, "melded")
		}
	}
}

// P15.2: Meld of Skew levels the trees of both, also where one has none, by steps of its own.
func TestMeldOfSkewLevels(t *testing.T) {
	h, _ := heap.Of(nil, heap.Skew, els(2, 1)...)
	none, _ := heap.Empty(heap.Skew)
	for _, both := range [][2]heap.Heap{{h, none}, {none, h}} {
		m := meter.New()
		if got, errno := both[0].Meld(m, both[1]); got.Show() != "(1:0 (2:0))" || errno != api.OK {
			t.Errorf("Meld of %s and %s = %s, %v", both[0].Show(), both[1].Show(), got.Show(), errno)
		}
		counted(t, "Meld of Skew with none", m, steps{1, 1})
	}
	if got := h.Show(); got != "(1:0) (2:0)" {
		t.Errorf("Show() = %s", got)
	}
}

// P15.2: Insert of each kind, of elements ahead of all, behind all, between, and equal ones.
func TestInsert(t *testing.T) {
	for _, kind := range kinds() {
		for _, l := range rows() {
			p := of(t, kind, l...)
			for _, x := range append(els(0, 1, 2, 4, -20, 99), edges()[:16]...) {
				p.insert(t, x).insert(t, x).pop(t)
			}
			p.insert(t, el(2)).emptied(t, "Insert")
			p.holds(t, "put into")
		}
	}
}

// P15.2: Pop of one element is the empty heap of that kind, and no error; of one more it is none.
func TestPopOfOne(t *testing.T) {
	for _, kind := range kinds() {
		for _, x := range edges() {
			p := of(t, kind, x)
			m := meter.New()
			if got, errno := p.heap.Min(m); got != x || errno != api.OK {
				t.Errorf("%s = %v, %v", p.what("Min"), got, errno)
			}
			h, errno := p.heap.Pop(m)
			if errno != api.OK || h.Kind() != kind || h.Size() != 0 || h.Show() != "." {
				t.Errorf("%s: %v, Kind() = %d, Size() = %d, Show() = %s", p.what("Pop"), errno, h.Kind(), h.Size(), h.Show())
			}
			if got, errno := h.Min(m); got != (api.Elem{}) || errno != 23 {
				t.Errorf("%s, and Min = %v, %v", p.what("Pop"), got, errno)
			}
			none, errno := h.Pop(m)
			refused(t, p.what("Pop, and Pop"), none, errno, 23)
			counted(t, p.what("Min and Pop"), m, steps{})
			p.pop(t).insert(t, x).emptied(t, "popped, and put in again")
		}
	}
}

// family is heaps of all kinds, made by the same calls.
type family []pair

// familyOf is Of of each kind.
func familyOf(t *testing.T, l ...api.Elem) family {
	t.Helper()
	var f family
	for _, kind := range kinds() {
		f = append(f, of(t, kind, l...))
	}
	return f.alike(t)
}

// alike fails, unless all kinds tell the same size, least element and error.
func (f family) alike(t *testing.T) family {
	t.Helper()
	size := f[0].heap.Size()
	least, errno := f[0].heap.Min(nil)
	_, popped := f[0].heap.Pop(nil)
	for _, p := range f {
		x, e := p.heap.Min(nil)
		_, e2 := p.heap.Pop(nil)
		if p.heap.Size() != size || x != least || e != errno || e2 != popped {
			t.Fatalf("%s = %d, %v, %v, %v, that of another kind %d, %v, %v, %v", p.what("Size, Min and Pop"), p.heap.Size(), x, e, e2, size, least, errno, popped)
		}
	}
	return f
}

// each is the same call of each kind.
func (f family) each(t *testing.T, call func(p pair) pair) family {
	t.Helper()
	var g family
	for _, p := range f {
		g = append(g, call(p))
	}
	return g.alike(t)
}

func (f family) insert(t *testing.T, x api.Elem) family {
	t.Helper()
	return f.each(t, func(p pair) pair { return p.insert(t, x) })
}

func (f family) meld(t *testing.T, o family) family {
	t.Helper()
	return f.each(t, func(p pair) pair { return p.meld(t, o[p.kind-1]) })
}

func (f family) pop(t *testing.T) family {
	t.Helper()
	return f.each(t, func(p pair) pair { return p.pop(t) })
}

func (f family) holds(t *testing.T, what string) {
	t.Helper()
	for _, p := range f {
		p.holds(t, what)
	}
}

// versions makes heaps of heaps, of all kinds by the same calls, and fails unless each is what it has to be, when it is made and at the end.
func versions(t *testing.T, rounds int, x func(n int) api.Elem) {
	t.Helper()
	all := []family{familyOf(t), familyOf(t, x(0)), familyOf(t, x(1), x(2)), familyOf(t, x(1), x(2), x(3))}
	for n := range rounds {
		a, b := all[n*7919%len(all)], all[n*104729%len(all)]
		made := []family{a.insert(t, x(n)), a.insert(t, x(n+3)).insert(t, x(n)), a.meld(t, b), b.meld(t, a), a.meld(t, a), a.pop(t), b.pop(t).pop(t), b.insert(t, x(n+1)), familyOf(t, x(n), x(n+2), x(n+5))}
		for _, f := range made {
			// Heaps that are melded with themselves would double without end.
			if f[0].heap.Size() <= 50 {
				all = append(all, f)
			}
		}
		a.holds(t, "what it came of")
		b.holds(t, "the other one")
	}
	for i, f := range all {
		if i%9 == 0 {
			for _, p := range f {
				p.emptied(t, "at the end")
			}
		}
	}
	for _, f := range all {
		f.holds(t, "at the end")
	}
}

// P15.2, P15.3: whatever is done with heaps from which others were made, each stays as it is; the same calls tell the same errors, sizes and least elements, whatever the kind; and all that is in a heap can be taken out, in order.
func TestVersionsStay(t *testing.T) {
	elements := []func(n int) api.Elem{
		func(n int) api.Elem { return api.Elem{P: int64(n*31%11) - 5, Id: int64(n % 3)} },
		func(n int) api.Elem { return el(int64(n * 17 % 4)) },
		func(n int) api.Elem { return el(int64(-n)) },
		func(n int) api.Elem { return api.Elem{P: int64(n), Id: int64(-n)} },
		func(n int) api.Elem { return edges()[n*13%49] },
	}
	for _, x := range elements {
		versions(t, 60, x)
	}
}

// P15.2, P15.3: many elements, in an order of their own, come out in order, by as many steps as the layer's, whatever the kind.
func TestMany(t *testing.T) {
	const n = 1 << 12
	var l []api.Elem
	for i := range int64(n) {
		l = append(l, api.Elem{P: i * 2741 % 4099 % 511, Id: i % 5})
	}
	row := with(nil, l...)
	for _, kind := range kinds() {
		m, layer := meter.New(), meter.New()
		h, _ := heap.Of(m, kind, l[:n/2]...)
		o, _ := heap.Of(m, kind, l[n/2:]...)
		h, _ = h.Meld(m, o)
		want := layerOf(layer, kind, l[:n/2]...).meld(layer, layerOf(layer, kind, l[n/2:]...))
		counted(t, "Of and Meld of many, of kind "+strconv.Itoa(kind), m, split(layer))
		for i, x := range row {
			if got, errno := h.Min(m); got != x || errno != api.OK || h.Size() != n-i || h.Kind() != kind {
				t.Fatalf("kind %d: %d popped: Min() = %v, %v, want %v; Size() = %d, Kind() = %d", kind, i, got, errno, x, h.Size(), h.Kind())
			}
			h, _ = h.Pop(m)
			want.min(layer)
			want, _ = want.pop(layer)
			counted(t, "Min and Pop of many, of kind "+strconv.Itoa(kind), m, split(layer))
		}
		if h.Size() != 0 || h.Kind() != kind {
			t.Errorf("kind %d: all popped: Size() = %d, Kind() = %d", kind, h.Size(), h.Kind())
		}
	}
}

// P15.2, P15.3: one meter counts all calls together, whatever the kind, just as the layers do.
func TestStepsTogether(t *testing.T) {
	m, layer := meter.New(), meter.New()
	for _, kind := range kinds() {
		h, _ := heap.Of(m, kind, some(40)...)
		o := layerOf(layer, kind, some(40)...)
		for i := range 40 {
			h, _ = h.Insert(m, el(int64(i%7)))
			o = o.insert(layer, el(int64(i%7)))
			h.Min(m)
			o.min(layer)
			h, _ = h.Pop(m)
			o, _ = o.pop(layer)
			if i%8 == 0 {
				h, _ = h.Meld(m, h)
				o = o.meld(layer, o)
			}
			h.Kind()
			h.Size()
			if h.Show() != o.show() {
				t.Fatalf("kind %d: Show() = %s, want %s", kind, h.Show(), o.show())
			}
		}
		counted(t, "kind "+strconv.Itoa(kind), m, split(layer))
	}
}

// P15.2, P15.3: of 2^31 elements too, which are one heap melded with itself again and again, all is told.
func TestTwiceAndTwice(t *testing.T) {
	for _, kind := range kinds() {
		h, _ := heap.Of(nil, kind, els(2, 1)...)
		size := 2
		for size < 1<<31 {
			var errno api.Errno
			h, errno = h.Meld(nil, h)
			size *= 2
			if x, e := h.Min(nil); x != el(1) || e != api.OK || errno != api.OK || h.Size() != size || h.Kind() != kind {
				t.Fatalf("kind %d: %v, Min() = %v, %v, Size() = %d, want %d, Kind() = %d", kind, errno, x, e, h.Size(), size, h.Kind())
			}
		}
	}
}
