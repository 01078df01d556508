package pennant_test

import (
	"maps"
	"math"
	"math/bits"
	"slices"
	"strconv"
	"strings"
	"testing"

	"slagheap/api"
	"slagheap/loser"
	"slagheap/meter"
	"slagheap/pennant"
)

// model is a queue as the chapter tells it: none, or <w t g>.
type model struct {
	is bool
	w  api.Elem
	t  *loser.Tree
	g  int64
}

// steps is how many comparisons a model takes, and what layer 12 counts.
type steps struct {
	compared int
	layer    *meter.Meter
}

// none are no steps so far.
func none() *steps { return &steps{0, meter.New()} }

// before is the order of elements, by what the document says of it.
func before(a, b api.Elem) bool { return a.P < b.P || a.P == b.P && a.Id < b.Id }

// ahead is how two elements stand, which takes a comparison.
func (s *steps) ahead(a, b api.Elem) bool {
	s.compared++
	return before(a, b)
}

// below is how two keys stand, which takes a comparison.
func (s *steps) below(a, b int64) bool {
	s.compared++
	return a < b
}

// one is the queue of one.
func one(x api.Elem) model { return model{true, x, nil, x.Id} }

// parts are those of a queue, unless its tree is none.
func (k model) parts() (model, model, bool) {
	left, x, a, key, b, is := k.t.Parts()
	switch {
	case !is:
		return model{}, model{}, false
	case left:
		return model{true, x, a, key}, model{true, k.w, b, k.g}, true
	default:
		return model{true, k.w, a, key}, model{true, x, b, k.g}, true
	}
}

// played is one of two.
func (s *steps) played(p, q model) model {
	switch {
	case !p.is:
		return q
	case !q.is:
		return p
	case s.ahead(q.w, p.w):
		return model{true, q.w, loser.Balance(s.layer, true, p.w, p.t, p.g, q.t), q.g}
	default:
		return model{true, p.w, loser.Balance(s.layer, false, q.w, p.t, p.g, q.t), q.g}
	}
}

// there tells whether a queue of one is of this key.
func (s *steps) there(k model, key int64) bool {
	return !s.below(k.w.Id, key) && !s.below(key, k.w.Id)
}

func (s *steps) lookup(k model, key int64) (int64, bool) {
	if !k.is {
		return 0, false
	}
	if k.t == nil {
		if s.there(k, key) {
			return k.w.P, true
		}
		return 0, false
	}
	p, q, _ := k.parts()
	if s.below(p.g, key) {
		return s.lookup(q, key)
	}
	return s.lookup(p, key)
}

func (s *steps) insert(k model, x api.Elem) model {
	if !k.is {
		return one(x)
	}
	if k.t == nil {
		y := k.w
		if s.below(x.Id, y.Id) {
			return s.played(one(x), one(y))
		}
		if s.below(y.Id, x.Id) {
			return s.played(one(y), one(x))
		}
		return one(x)
	}
	p, q, _ := k.parts()
	if s.below(p.g, x.Id) {
		return s.played(p, s.insert(q, x))
	}
	return s.played(s.insert(p, x), q)
}

func (s *steps) delete(k model, key int64) (model, bool) {
	if !k.is {
		return k, false
	}
	if k.t == nil {
		if s.there(k, key) {
			return model{}, true
		}
		return k, false
	}
	p, q, _ := k.parts()
	var is bool
	if s.below(p.g, key) {
		q, is = s.delete(q, key)
	} else {
		p, is = s.delete(p, key)
	}
	if !is {
		return k, false
	}
	return s.played(p, q), true
}

func (s *steps) adjust(k model, key, p int64) (model, bool) {
	if _, is := s.lookup(k, key); !is {
		return k, false
	}
	return s.insert(k, api.Elem{P: p, Id: key}), true
}

// rest is that of a tree and a key.
func (s *steps) rest(t *loser.Tree, g int64) model {
	left, x, a, k, b, is := t.Parts()
	switch {
	case !is:
		return model{}
	case left:
		r := s.rest(b, g)
		return s.played(model{true, x, a, k}, r)
	default:
		r := s.rest(a, k)
		return s.played(r, model{true, x, b, g})
	}
}

func (s *steps) rising(l []api.Elem) model {
	switch len(l) {
	case 0:
		return model{}
	case 1:
		return one(l[0])
	}
	p := s.rising(l[:len(l)/2])
	q := s.rising(l[len(l)/2:])
	return s.played(p, q)
}

func (k model) size() int {
	if !k.is {
		return 0
	}
	return 1 + k.t.Size()
}

func (k model) all() []api.Elem {
	if !k.is {
		return nil
	}
	return k.t.Under(k.w)
}

// number is a number's text.
func number(n int64) string { return strconv.FormatInt(n, 10) }

// text is an element's text.
func text(e api.Elem) string { return number(e.P) + ":" + number(e.Id) }

func (k model) show() string {
	if !k.is {
		return "."
	}
	return "<" + text(k.w) + " " + k.t.Show() + " " + number(k.g) + ">"
}

// pair is a queue, and what it has to be for ever.
type pair struct {
	queue pennant.Queue
	want  model
}

// counted fails, unless so many comparisons and things made were counted since the meter was new.
func counted(t *testing.T, what string, m *meter.Meter, compared, made int) {
	t.Helper()
	if c, n := m.Split(); c != compared || n != made {
		t.Fatalf("%s: %d comparisons, %d made, want %d, %d", what, c, n, compared, made)
	}
}

// agrees fails, unless a meter counted what a model takes.
func agrees(t *testing.T, what string, m *meter.Meter, s *steps) {
	t.Helper()
	compared, made := s.layer.Split()
	counted(t, what, m, s.compared+compared, made)
}

// same fails, unless all that a queue tells, but for its parts, is that it is just this one.
func same(t *testing.T, what string, q pennant.Queue, want model) {
	t.Helper()
	if got := q.Show(); got != want.show() {
		t.Fatalf("%s: Show() = %s, want %s", what, got, want.show())
	}
	if got := q.Size(); got != want.size() {
		t.Fatalf("%s: Size() of %s = %d, want %d", what, want.show(), got, want.size())
	}
	if got := q.Deep(); got != want.t.Deep() {
		t.Fatalf("%s: Deep() of %s = %d, want %d", what, want.show(), got, want.t.Deep())
	}
	if got := q.All(); !slices.Equal(got, want.all()) {
		t.Fatalf("%s: All() of %s = %v, want %v", what, want.show(), got, want.all())
	}
	m := meter.New()
	if got, is := q.Min(m); got != want.w || is != want.is {
		t.Fatalf("%s: Min() of %s = %v, %v, want %v, %v", what, want.show(), got, is, want.w, want.is)
	}
	counted(t, what+": Min", m, 0, 0)
}

// holds fails, unless a queue, and each of its parts, tells that it is just this one.
func holds(t *testing.T, what string, p pair) {
	t.Helper()
	same(t, what, p.queue, p.want)
	first, second, is := p.queue.Parts()
	wantFirst, wantSecond, want := p.want.parts()
	if is != want {
		t.Fatalf("%s: Parts() of %s: %v, want %v", what, p.want.show(), is, want)
	}
	if !is {
		same(t, what+": first part", first, model{})
		same(t, what+": second part", second, model{})
		return
	}
	holds(t, what+": first part", pair{first, wantFirst})
	holds(t, what+": second part", pair{second, wantSecond})
}

// shows fails, unless a queue is as the chapter tells it, and its text is this one, written out.
func shows(t *testing.T, what string, p pair, want string) {
	t.Helper()
	if got := p.queue.Show(); got != want {
		t.Errorf("%s: Show() = %s, want %s", what, got, want)
	}
	holds(t, what, p)
}

// of is Of by a meter of its own, and without one.
func of(t *testing.T, l ...api.Elem) pair {
	t.Helper()
	m, s := meter.New(), none()
	p := pair{queue: pennant.Of(m, l...)}
	for _, x := range l {
		p.want = s.insert(p.want, x)
	}
	agrees(t, "Of", m, s)
	same(t, "Of", p.queue, p.want)
	same(t, "Of without a meter", pennant.Of(nil, l...), p.want)
	return p
}

// rising is Rising by a meter of its own, and without one.
func rising(t *testing.T, l []api.Elem) pair {
	t.Helper()
	m, s := meter.New(), none()
	q, errno := pennant.Rising(m, l)
	p := pair{q, s.rising(l)}
	agrees(t, "Rising", m, s)
	same(t, "Rising", q, p.want)
	r, other := pennant.Rising(nil, l)
	same(t, "Rising without a meter", r, p.want)
	if errno != api.OK || other != api.OK {
		t.Fatalf("Rising(%v): %v, %v", l, errno, other)
	}
	return p
}

// lookup is Lookup by a meter of its own, and without one.
func lookup(t *testing.T, p pair, key int64) (int64, bool) {
	t.Helper()
	m, s := meter.New(), none()
	got, is := p.queue.Lookup(m, key)
	want, there := s.lookup(p.want, key)
	if got != want || is != there {
		t.Fatalf("Lookup(%d) in %s = %d, %v, want %d, %v", key, p.want.show(), got, is, want, there)
	}
	agrees(t, "Lookup", m, s)
	if again, isAgain := p.queue.Lookup(nil, key); again != want || isAgain != there {
		t.Fatalf("Lookup(%d) in %s without a meter = %d, %v, want %d, %v", key, p.want.show(), again, isAgain, want, there)
	}
	return got, is
}

// insert is Insert by a meter of its own, and without one.
func insert(t *testing.T, p pair, x api.Elem) pair {
	t.Helper()
	m, s := meter.New(), none()
	q := pair{p.queue.Insert(m, x), s.insert(p.want, x)}
	agrees(t, "Insert", m, s)
	same(t, "Insert", q.queue, q.want)
	same(t, "Insert without a meter", p.queue.Insert(nil, x), q.want)
	return q
}

// remove is Delete by a meter of its own, and without one.
func remove(t *testing.T, p pair, key int64) (pair, bool) {
	t.Helper()
	m, s := meter.New(), none()
	q, is := p.queue.Delete(m, key)
	want, there := s.delete(p.want, key)
	agrees(t, "Delete", m, s)
	same(t, "Delete", q, want)
	r, other := p.queue.Delete(nil, key)
	same(t, "Delete without a meter", r, want)
	if is != there || other != there {
		t.Fatalf("Delete(%d) in %s: %v, %v, want %v", key, p.want.show(), is, other, there)
	}
	return pair{q, want}, is
}

// adjust is Adjust by a meter of its own, and without one.
func adjust(t *testing.T, p pair, key, priority int64) (pair, bool) {
	t.Helper()
	m, s := meter.New(), none()
	q, is := p.queue.Adjust(m, key, priority)
	want, there := s.adjust(p.want, key, priority)
	agrees(t, "Adjust", m, s)
	same(t, "Adjust", q, want)
	r, other := p.queue.Adjust(nil, key, priority)
	same(t, "Adjust without a meter", r, want)
	if is != there || other != there {
		t.Fatalf("Adjust(%d, %d) in %s: %v, %v, want %v", key, priority, p.want.show(), is, other, there)
	}
	return pair{q, want}, is
}

// pop is Pop by a meter of its own, and without one.
func pop(t *testing.T, p pair) (pair, bool) {
	t.Helper()
	m, s := meter.New(), none()
	q, is := p.queue.Pop(m)
	want := s.rest(p.want.t, p.want.g)
	agrees(t, "Pop", m, s)
	same(t, "Pop", q, want)
	r, other := p.queue.Pop(nil)
	same(t, "Pop without a meter", r, want)
	if is != p.want.is || other != p.want.is {
		t.Fatalf("Pop() of %s: %v, %v", p.want.show(), is, other)
	}
	return pair{q, want}, is
}

// el is the element of a priority and a key.
func el(p, key int64) api.Elem { return api.Elem{P: p, Id: key} }

// odd are elements of the keys 1, 3, 5 and so on, so many, of priorities that are scattered.
func odd(n int) []api.Elem {
	var l []api.Elem
	for i := range n {
		l = append(l, el(int64(i*37%11), int64(2*i+1)))
	}
	return l
}

// ends are numbers at both ends of what 64 bits hold, and between.
func ends() []int64 {
	return []int64{math.MinInt64, math.MinInt64 + 1, -10, -1, 0, 1, 10, math.MaxInt64 - 1, math.MaxInt64}
}

// sorted are a map's elements, by rising keys.
func sorted(priorities map[int64]int64) []api.Elem {
	var l []api.Elem
	for _, key := range slices.Sorted(maps.Keys(priorities)) {
		l = append(l, el(priorities[key], key))
	}
	return l
}

// least is the least one of elements.
func least(l []api.Elem) api.Elem {
	x := l[0]
	for _, y := range l {
		if before(y, x) {
			x = y
		}
	}
	return x
}

// proper fails, unless a queue is just these elements, whose keys rise, and all is right in each of its parts: found by what a queue tells, without a model.
func proper(t *testing.T, what string, q pennant.Queue, l []api.Elem) {
	t.Helper()
	if got := q.All(); !slices.Equal(got, l) || q.Size() != len(l) {
		t.Fatalf("%s: All() = %v, Size() = %d, want %v", what, got, q.Size(), l)
	}
	if q.Deep() > 3*bits.Len(uint(len(l))) {
		t.Fatalf("%s: Deep() of %d elements = %d", what, len(l), q.Deep())
	}
	least, is := q.Min(nil)
	if is != (len(l) > 0) {
		t.Fatalf("%s: Min() of %d elements: %v", what, len(l), is)
	}
	if !is {
		if q != (pennant.Queue{}) {
			t.Fatalf("%s: none isn't a zero queue", what)
		}
		return
	}
	greatest(t, what, q, l[len(l)-1].Id)
	for i, x := range l {
		if i > 0 && x.Id <= l[i-1].Id {
			t.Fatalf("%s: keys don't rise: %v", what, l)
		}
		if before(x, least) {
			t.Fatalf("%s: %v won, but %v stands ahead of it", what, least, x)
		}
	}
	properParts(t, what, q, l)
}

// greatest fails, unless a queue's greatest key is this one.
func greatest(t *testing.T, what string, q pennant.Queue, key int64) {
	t.Helper()
	if text := q.Show(); !strings.HasSuffix(text, " "+number(key)+">") {
		t.Fatalf("%s: the greatest key isn't %d: %s", what, key, text)
	}
}

// properParts fails, unless a queue of elements has the parts that it may have.
func properParts(t *testing.T, what string, q pennant.Queue, l []api.Elem) {
	t.Helper()
	first, second, is := q.Parts()
	if is != (len(l) > 1) {
		t.Fatalf("%s: Parts() of %d elements: %v", what, len(l), is)
	}
	if !is {
		if q.Deep() != 0 || first != (pennant.Queue{}) || second != (pennant.Queue{}) {
			t.Fatalf("%s: Deep() = %d, parts %s and %s", what, q.Deep(), first.Show(), second.Show())
		}
		return
	}
	n, o := first.Size(), second.Size()
	if n < 1 || o < 1 || n+o != len(l) || n > 3*o || o > 3*n {
		t.Fatalf("%s: parts of %d and %d elements of %d", what, n, o, len(l))
	}
	if deep := 1 + max(first.Deep(), second.Deep()); q.Deep() != deep {
		t.Fatalf("%s: Deep() = %d, want %d", what, q.Deep(), deep)
	}
	proper(t, what, first, l[:n])
	proper(t, what, second, l[n:])
}

// P13.2: the chapter's example.
func TestExample(t *testing.T) {
	m := meter.New()
	q := pennant.Of(m, el(2, 5), el(1, 9))
	if got := q.Show(); got != "<1:9 L(2:5 . 5 .) 9>" {
		t.Errorf("Show() = %s", got)
	}
	counted(t, "the example", m, 3, 1)
	shows(t, "the example", of(t, el(2, 5), el(1, 9)), "<1:9 L(2:5 . 5 .) 9>")
}

// P13.1 to P13.4: what none tells, and what is done with it.
func TestNone(t *testing.T) {
	var zero pair
	shows(t, "a zero queue", zero, ".")
	shows(t, "Of none", of(t), ".")
	shows(t, "Rising of nil", rising(t, nil), ".")
	shows(t, "Rising of an empty row", rising(t, []api.Elem{}), ".")
	q, m := zero.queue, meter.New()
	if x, is := q.Min(m); x != (api.Elem{}) || is {
		t.Errorf("Min() = %v, %v", x, is)
	}
	if q.Size() != 0 || q.Deep() != 0 || len(q.All()) != 0 || q.Show() != "." {
		t.Errorf("Size() = %d, Deep() = %d, All() = %v, Show() = %s", q.Size(), q.Deep(), q.All(), q.Show())
	}
	for _, key := range ends() {
		if p, is := q.Lookup(m, key); p != 0 || is {
			t.Errorf("Lookup(%d) = %d, %v", key, p, is)
		}
		if r, is := q.Delete(m, key); r != q || is {
			t.Errorf("Delete(%d) = %s, %v", key, r.Show(), is)
		}
		if r, is := q.Adjust(m, key, 7); r != q || is {
			t.Errorf("Adjust(%d) = %s, %v", key, r.Show(), is)
		}
		if r := q.Insert(m, el(7, key)); r.Show() != "<7:"+number(key)+" . "+number(key)+">" {
			t.Errorf("Insert(7:%d) = %s", key, r.Show())
		}
	}
	if r, is := q.Pop(m); r != q || is {
		t.Errorf("Pop() = %s, %v", r.Show(), is)
	}
	if r, s, is := q.Parts(); r != q || s != q || is {
		t.Errorf("Parts() = %s, %s, %v", r.Show(), s.Show(), is)
	}
	counted(t, "none", m, 0, 0)
}

// P13.1 to P13.4: what one tells: two steps at most, and the element that is there is no zero one, but where it is.
func TestOne(t *testing.T) {
	for _, p := range ends() {
		for _, key := range ends() {
			x := el(p, key)
			q := of(t, x)
			shows(t, "one", q, "<"+text(x)+" . "+number(key)+">")
			if got, is := q.queue.Min(nil); got != x || !is {
				t.Errorf("Min() of %v = %v, %v", x, got, is)
			}
			if q.queue.Size() != 1 || q.queue.Deep() != 0 || !slices.Equal(q.queue.All(), []api.Elem{x}) {
				t.Errorf("%v: Size() = %d, Deep() = %d, All() = %v", x, q.queue.Size(), q.queue.Deep(), q.queue.All())
			}
			if r, is := pop(t, q); r.queue != (pennant.Queue{}) || !is {
				t.Errorf("Pop() of %v = %s, %v", x, r.queue.Show(), is)
			}
			if r, s, is := q.queue.Parts(); r != (pennant.Queue{}) || s != (pennant.Queue{}) || is {
				t.Errorf("Parts() of %v = %s, %s, %v", x, r.Show(), s.Show(), is)
			}
			shows(t, "Rising of one", rising(t, []api.Elem{x}), "<"+text(x)+" . "+number(key)+">")
		}
	}
}

// P13.1: of one: first it is told whether its key is below, and then, unless it is, whether it is above.
func TestLookupInOne(t *testing.T) {
	q := of(t, el(-7, 5))
	for _, r := range []struct {
		key, p   int64
		is       bool
		compared int
	}{
		{5, -7, true, 2}, {4, 0, false, 2}, {6, 0, false, 1}, {-5, 0, false, 2}, {-7, 0, false, 2}, {0, 0, false, 2},
		{math.MinInt64, 0, false, 2}, {math.MaxInt64, 0, false, 1},
	} {
		m := meter.New()
		if p, is := q.queue.Lookup(m, r.key); p != r.p || is != r.is {
			t.Errorf("Lookup(%d) = %d, %v", r.key, p, is)
		}
		counted(t, "Lookup of "+number(r.key), m, r.compared, 0)
		lookup(t, q, r.key)
	}
}

// P13.1: of four, a step on each way down, and two at most at its end; nothing is made.
func TestLookupInFour(t *testing.T) {
	q := rising(t, []api.Elem{el(4, 1), el(2, 3), el(3, 5), el(1, 7)})
	shows(t, "four", q, "<1:7 L(2:3 L(4:1 . 1 .) 3 L(3:5 . 5 .)) 7>")
	for _, r := range []struct {
		key, p   int64
		is       bool
		compared int
	}{
		{1, 4, true, 4}, {3, 2, true, 4}, {5, 3, true, 4}, {7, 1, true, 4},
		{0, 0, false, 4}, {2, 0, false, 4}, {4, 0, false, 4}, {6, 0, false, 4}, {8, 0, false, 3},
		{-1, 0, false, 4}, {math.MinInt64, 0, false, 4}, {math.MaxInt64, 0, false, 3},
	} {
		m := meter.New()
		if p, is := q.queue.Lookup(m, r.key); p != r.p || is != r.is {
			t.Errorf("Lookup(%d) = %d, %v", r.key, p, is)
		}
		counted(t, "Lookup of "+number(r.key), m, r.compared, 0)
		lookup(t, q, r.key)
	}
}

// P13.1: of many, keys that are there, below all, above all, and between each two.
func TestLookupInMany(t *testing.T) {
	for n := range 70 {
		l := odd(n)
		for _, q := range []pair{rising(t, l), of(t, l...)} {
			for key := int64(-1); key <= int64(2*n+1); key++ {
				p, is := lookup(t, q, key)
				want := key > 0 && key%2 == 1 && key < int64(2*n)
				if is != want || is && p != l[key/2].P || !is && p != 0 {
					t.Errorf("Lookup(%d) in %s = %d, %v", key, q.queue.Show(), p, is)
				}
			}
		}
	}
}

// P13.2: into one, below (one step, and a play), above (two, and a play), and the same (two; the new element is there now).
func TestInsertIntoOne(t *testing.T) {
	q := of(t, el(2, 5))
	for _, r := range []struct {
		x              api.Elem
		want           string
		compared, made int
	}{
		{el(1, 3), "<1:3 R(2:5 . 3 .) 5>", 2, 1},
		{el(3, 3), "<2:5 L(3:3 . 3 .) 5>", 2, 1},
		{el(2, 3), "<2:3 R(2:5 . 3 .) 5>", 2, 1},
		{el(1, 9), "<1:9 L(2:5 . 5 .) 9>", 3, 1},
		{el(3, 9), "<2:5 R(3:9 . 5 .) 9>", 3, 1},
		{el(2, 9), "<2:5 R(2:9 . 5 .) 9>", 3, 1},
		{el(1, 5), "<1:5 . 5>", 2, 0},
		{el(2, 5), "<2:5 . 5>", 2, 0},
		{el(3, 5), "<3:5 . 5>", 2, 0},
		{el(1, -5), "<1:-5 R(2:5 . -5 .) 5>", 2, 1},
		{el(-1, math.MinInt64), "<-1:-9223372036854775808 R(2:5 . -9223372036854775808 .) 5>", 2, 1},
		{el(4, math.MaxInt64), "<2:5 R(4:9223372036854775807 . 5 .) 9223372036854775807>", 3, 1},
	} {
		m := meter.New()
		q.queue.Insert(m, r.x)
		counted(t, "Insert of "+text(r.x), m, r.compared, r.made)
		shows(t, "Insert of "+text(r.x), insert(t, q, r.x), r.want)
	}
	shows(t, "what it was put into", q, "<2:5 . 5>")
}

// P13.2: into two, on each side of each, and in the place of each.
func TestInsertIntoTwo(t *testing.T) {
	q := of(t, el(2, 5), el(1, 9))
	for _, r := range []struct {
		x              api.Elem
		want           string
		compared, made int
	}{
		{el(3, 4), "<1:9 L(2:5 L(3:4 . 4 .) 5 .) 9>", 4, 2},
		{el(0, 4), "<0:4 R(1:9 R(2:5 . 4 .) 5 .) 9>", 4, 2},
		{el(3, 6), "<1:9 L(2:5 . 5 L(3:6 . 6 .)) 9>", 4, 2},
		{el(0, 6), "<0:6 L(2:5 . 5 R(1:9 . 6 .)) 9>", 4, 2},
		{el(3, 10), "<1:9 L(2:5 . 5 R(3:10 . 9 .)) 10>", 5, 2},
		{el(0, 10), "<0:10 L(2:5 . 5 L(1:9 . 9 .)) 10>", 5, 2},
		{el(4, 5), "<1:9 L(4:5 . 5 .) 9>", 4, 1},
		{el(0, 5), "<0:5 R(1:9 . 5 .) 9>", 4, 1},
		{el(4, 9), "<2:5 R(4:9 . 5 .) 9>", 4, 1},
		{el(0, 9), "<0:9 L(2:5 . 5 .) 9>", 4, 1},
	} {
		m := meter.New()
		q.queue.Insert(m, r.x)
		counted(t, "Insert of "+text(r.x), m, r.compared, r.made)
		shows(t, "Insert of "+text(r.x), insert(t, q, r.x), r.want)
	}
	shows(t, "what it was put into", q, "<1:9 L(2:5 . 5 .) 9>")
}

// P13.2: into many, on both sides of each key, and in its place, of priorities below, above, and the same.
func TestInsertIntoMany(t *testing.T) {
	for n := range 28 {
		l := odd(n)
		q := rising(t, l)
		for key := int64(0); key <= int64(2*n); key++ {
			for _, p := range []int64{-1, 4, 20} {
				x := el(p, key)
				want := slices.Clone(l)
				if i := int(key / 2); key%2 == 1 {
					want[i] = x
				} else {
					want = slices.Insert(want, i, x)
				}
				r := insert(t, q, x)
				holds(t, "Insert", r)
				proper(t, "Insert", r.queue, want)
			}
		}
		holds(t, "what was put into", q)
	}
}

// P13.2: Of puts one in after the other: the last one of a key is there.
func TestOf(t *testing.T) {
	for _, r := range []struct {
		l    []api.Elem
		want string
	}{
		{nil, "."},
		{[]api.Elem{el(2, 5)}, "<2:5 . 5>"},
		{[]api.Elem{el(2, 5), el(1, 5)}, "<1:5 . 5>"},
		{[]api.Elem{el(1, 5), el(2, 5)}, "<2:5 . 5>"},
		{[]api.Elem{el(1, 5), el(2, 5), el(1, 5)}, "<1:5 . 5>"},
		{[]api.Elem{el(1, 9), el(2, 5)}, "<1:9 L(2:5 . 5 .) 9>"},
		{[]api.Elem{el(2, 5), el(1, 9), el(7, 5), el(3, 9)}, "<3:9 L(7:5 . 5 .) 9>"},
		{[]api.Elem{el(4, 1), el(3, 2), el(2, 3), el(1, 4)}, "<1:4 L(4:1 . 1 L(3:2 . 2 L(2:3 . 3 .))) 4>"},
		{[]api.Elem{el(1, 1), el(2, 2), el(3, 3), el(4, 4)}, "<1:1 R(2:2 . 1 R(3:3 . 2 R(4:4 . 3 .))) 4>"},
		{[]api.Elem{el(0, 0)}, "<0:0 . 0>"},
	} {
		shows(t, "Of", of(t, r.l...), r.want)
	}
	for n := range 60 {
		var l []api.Elem
		last := map[int64]int64{}
		for i := range n {
			x := el(int64(i*31%17), int64(i*i%23))
			l, last[x.Id] = append(l, x), x.P
		}
		was := slices.Clone(l)
		q := of(t, l...)
		holds(t, "Of", q)
		proper(t, "Of", q.queue, sorted(last))
		if !slices.Equal(l, was) {
			t.Errorf("Of wrote what was handed in: %v", l)
		}
		for i := range l {
			l[i] = el(-99, -99)
		}
		holds(t, "behind a write into what was handed in", q)
	}
}

// P13.2: Rising cuts in halves, the first one the lesser one; a play for each but one, and no step more.
func TestRising(t *testing.T) {
	for _, r := range []struct {
		l    []api.Elem
		want string
	}{
		{[]api.Elem{el(2, 5), el(1, 9)}, "<1:9 L(2:5 . 5 .) 9>"},
		{[]api.Elem{el(1, 5), el(2, 9)}, "<1:5 R(2:9 . 5 .) 9>"},
		{[]api.Elem{el(2, 5), el(2, 9)}, "<2:5 R(2:9 . 5 .) 9>"},
		{[]api.Elem{el(1, 1), el(2, 2), el(3, 3)}, "<1:1 R(2:2 . 1 R(3:3 . 2 .)) 3>"},
		{[]api.Elem{el(3, 1), el(2, 2), el(1, 3)}, "<1:3 L(3:1 . 1 L(2:2 . 2 .)) 3>"},
		{[]api.Elem{el(4, 1), el(2, 2), el(3, 3), el(1, 4)}, "<1:4 L(2:2 L(4:1 . 1 .) 2 L(3:3 . 3 .)) 4>"},
		{[]api.Elem{el(5, -2), el(4, -1), el(1, 0), el(2, 1), el(3, 2)}, "<1:0 L(4:-1 L(5:-2 . -2 .) -1 R(2:1 . 0 R(3:2 . 1 .))) 2>"},
	} {
		shows(t, "Rising", rising(t, r.l), r.want)
	}
	for n := range 130 {
		l := odd(n)
		was := slices.Clone(l)
		m := meter.New()
		q, errno := pennant.Rising(m, l)
		counted(t, "Rising", m, max(0, n-1), max(0, n-1))
		p := rising(t, l)
		holds(t, "Rising", p)
		proper(t, "Rising", q, l)
		if errno != api.OK || q.Deep() != bits.Len(uint(max(1, n)-1)) {
			t.Errorf("Rising of %d: %v, Deep() = %d", n, errno, q.Deep())
		}
		if !slices.Equal(l, was) {
			t.Errorf("Rising wrote what was handed in: %v", l)
		}
		for i := range l {
			l[i] = el(-99, -99)
		}
		holds(t, "behind a write into what was handed in", p)
	}
}

// refused fails, unless Rising tells ErrArg of a row, none beside it, and no step.
func refused(t *testing.T, l []api.Elem) {
	t.Helper()
	m := meter.New()
	q, errno := pennant.Rising(m, l)
	if errno != api.ErrArg || q != (pennant.Queue{}) || q.Show() != "." {
		t.Errorf("Rising(%v) = %s, %v", l, q.Show(), errno)
	}
	counted(t, "Rising of keys that don't rise", m, 0, 0)
	if r, other := pennant.Rising(nil, l); r != q || other != errno {
		t.Errorf("Rising(%v) without a meter = %s, %v", l, r.Show(), other)
	}
}

// P13.2: rows whose keys don't rise: two the same, or one below the one ahead, wherever they stand, and whatever their priorities.
func TestRisingOfKeysThatDont(t *testing.T) {
	for _, l := range [][]api.Elem{
		{el(1, 5), el(1, 5)}, {el(1, 5), el(2, 5)}, {el(2, 5), el(1, 5)}, {el(1, 5), el(2, 4)}, {el(2, 5), el(1, 4)}, {el(0, 0), el(0, 0)},
		{el(1, 1), el(2, 0)}, {el(1, 0), el(2, -1)}, {el(1, -1), el(2, -2)},
		{el(1, 1), el(1, 3), el(1, 2)}, {el(1, 1), el(1, 2), el(1, 2)}, {el(1, 1), el(1, 1), el(1, 2)}, {el(1, 2), el(1, 1), el(1, 3)}, {el(1, 2), el(1, 3), el(1, 1)},
		{el(1, math.MaxInt64), el(1, math.MinInt64)}, {el(1, math.MaxInt64), el(1, math.MaxInt64)}, {el(1, math.MinInt64), el(1, math.MinInt64)},
		{el(1, 1), el(1, math.MaxInt64), el(1, math.MinInt64)}, {el(1, math.MinInt64+1), el(1, math.MinInt64)}, {el(1, math.MaxInt64), el(1, math.MaxInt64-1)},
	} {
		refused(t, l)
	}
	for n := 2; n < 34; n++ {
		for i := 1; i < n; i++ {
			for _, key := range []int64{int64(2*i - 1), int64(2*i - 2), -1} {
				l := odd(n)
				l[i].Id = key
				refused(t, l)
				l[i].P = l[i-1].P
				refused(t, l)
			}
		}
	}
}

// P13.3: of one: there, none is left; else the queue itself; told as in Lookup.
func TestDeleteFromOne(t *testing.T) {
	q := of(t, el(2, 5))
	for _, r := range []struct {
		key      int64
		want     string
		is       bool
		compared int
	}{
		{5, ".", true, 2}, {4, "<2:5 . 5>", false, 2}, {6, "<2:5 . 5>", false, 1}, {2, "<2:5 . 5>", false, 2}, {0, "<2:5 . 5>", false, 2}, {-5, "<2:5 . 5>", false, 2},
		{math.MinInt64, "<2:5 . 5>", false, 2}, {math.MaxInt64, "<2:5 . 5>", false, 1},
	} {
		m := meter.New()
		got, is := q.queue.Delete(m, r.key)
		if is != r.is || is && got != (pennant.Queue{}) || !is && got != q.queue {
			t.Errorf("Delete(%d) = %s, %v", r.key, got.Show(), is)
		}
		counted(t, "Delete of "+number(r.key), m, r.compared, 0)
		p, _ := remove(t, q, r.key)
		shows(t, "Delete of "+number(r.key), p, r.want)
	}
	shows(t, "what it was taken out of", q, "<2:5 . 5>")
}

// P13.3: of two no play is left; of three one, and so on; the greatest key is that of the part that is left.
func TestDeleteFromFew(t *testing.T) {
	two := of(t, el(2, 5), el(1, 9))
	three := rising(t, []api.Elem{el(1, 1), el(3, 3), el(2, 5)})
	shows(t, "three", three, "<1:1 R(2:5 . 1 L(3:3 . 3 .)) 5>")
	for _, r := range []struct {
		from           pair
		key            int64
		want           string
		is             bool
		compared, made int
	}{
		{two, 5, "<1:9 . 9>", true, 3, 0},
		{two, 9, "<2:5 . 5>", true, 3, 0},
		{two, 4, "<1:9 L(2:5 . 5 .) 9>", false, 3, 0},
		{two, 6, "<1:9 L(2:5 . 5 .) 9>", false, 3, 0},
		{two, 10, "<1:9 L(2:5 . 5 .) 9>", false, 2, 0},
		{three, 1, "<2:5 L(3:3 . 3 .) 5>", true, 3, 0},
		{three, 3, "<1:1 R(2:5 . 1 .) 5>", true, 5, 1},
		{three, 5, "<1:1 R(3:3 . 1 .) 3>", true, 5, 1},
		{three, 0, "<1:1 R(2:5 . 1 L(3:3 . 3 .)) 5>", false, 3, 0},
		{three, 2, "<1:1 R(2:5 . 1 L(3:3 . 3 .)) 5>", false, 4, 0},
		{three, 4, "<1:1 R(2:5 . 1 L(3:3 . 3 .)) 5>", false, 4, 0},
		{three, 6, "<1:1 R(2:5 . 1 L(3:3 . 3 .)) 5>", false, 3, 0},
	} {
		m := meter.New()
		if got, is := r.from.queue.Delete(m, r.key); is != r.is || !is && got != r.from.queue {
			t.Errorf("Delete(%d) = %s, %v", r.key, got.Show(), is)
		}
		counted(t, "Delete of "+number(r.key), m, r.compared, r.made)
		p, _ := remove(t, r.from, r.key)
		shows(t, "Delete of "+number(r.key), p, r.want)
	}
}

// P13.3: of many, keys that are there, and keys that aren't.
func TestDeleteFromMany(t *testing.T) {
	for n := range 40 {
		l := odd(n)
		for _, q := range []pair{rising(t, l), of(t, l...)} {
			for key := int64(-1); key <= int64(2*n+1); key++ {
				p, is := remove(t, q, key)
				there := key > 0 && key%2 == 1 && key < int64(2*n)
				if is != there || !is && p.queue != q.queue {
					t.Errorf("Delete(%d) in %s = %s, %v", key, q.queue.Show(), p.queue.Show(), is)
				}
				if is {
					holds(t, "Delete", p)
					proper(t, "Delete", p.queue, slices.Delete(slices.Clone(l), int(key/2), int(key/2)+1))
				}
			}
			holds(t, "what was taken out of", q)
		}
	}
}

// P13.3: Adjust looks the key up first, and then puts its element in; what isn't there is only looked up.
func TestAdjustOfFew(t *testing.T) {
	one, two := of(t, el(2, 5)), of(t, el(2, 5), el(1, 9))
	for _, r := range []struct {
		from           pair
		key, p         int64
		want           string
		is             bool
		compared, made int
	}{
		{one, 5, 7, "<7:5 . 5>", true, 4, 0},
		{one, 5, 2, "<2:5 . 5>", true, 4, 0},
		{one, 5, -7, "<-7:5 . 5>", true, 4, 0},
		{one, 4, 7, "<2:5 . 5>", false, 2, 0},
		{one, 6, 7, "<2:5 . 5>", false, 1, 0},
		{two, 5, 7, "<1:9 L(7:5 . 5 .) 9>", true, 7, 1},
		{two, 5, 2, "<1:9 L(2:5 . 5 .) 9>", true, 7, 1},
		{two, 5, 1, "<1:5 R(1:9 . 5 .) 9>", true, 7, 1},
		{two, 5, 0, "<0:5 R(1:9 . 5 .) 9>", true, 7, 1},
		{two, 9, 7, "<2:5 R(7:9 . 5 .) 9>", true, 7, 1},
		{two, 9, 2, "<2:5 R(2:9 . 5 .) 9>", true, 7, 1},
		{two, 9, -1, "<-1:9 L(2:5 . 5 .) 9>", true, 7, 1},
		{two, 4, 0, "<1:9 L(2:5 . 5 .) 9>", false, 3, 0},
		{two, 6, 0, "<1:9 L(2:5 . 5 .) 9>", false, 3, 0},
		{two, 10, 0, "<1:9 L(2:5 . 5 .) 9>", false, 2, 0},
	} {
		m := meter.New()
		if got, is := r.from.queue.Adjust(m, r.key, r.p); is != r.is || !is && got != r.from.queue {
			t.Errorf("Adjust(%d, %d) = %s, %v", r.key, r.p, got.Show(), is)
		}
		counted(t, "Adjust of "+number(r.key), m, r.compared, r.made)
		p, _ := adjust(t, r.from, r.key, r.p)
		shows(t, "Adjust of "+number(r.key), p, r.want)
	}
	shows(t, "what was adjusted", two, "<1:9 L(2:5 . 5 .) 9>")
}

// P13.3: of many, to priorities above, below, and the same; and of keys that aren't there.
func TestAdjustOfMany(t *testing.T) {
	for n := range 26 {
		l := odd(n)
		for _, q := range []pair{rising(t, l), of(t, l...)} {
			for key := int64(-1); key <= int64(2*n+1); key++ {
				for _, by := range []int64{-20, -1, 0, 1, 20} {
					there := key > 0 && key%2 == 1 && key < int64(2*n)
					to := by
					want := slices.Clone(l)
					if there {
						to += l[key/2].P
						want[key/2].P = to
					}
					p, is := adjust(t, q, key, to)
					if is != there || !is && p.queue != q.queue {
						t.Errorf("Adjust(%d, %d) in %s = %s, %v", key, to, q.queue.Show(), p.queue.Show(), is)
					}
					proper(t, "Adjust", p.queue, want)
				}
			}
			holds(t, "what was adjusted", q)
		}
	}
}

// P13.2: what is played is balanced: trees that get too heavy are turned, once or twice, and the meter counts what is made and told there.
func TestPlayedAndBalanced(t *testing.T) {
	rows := []struct {
		from           pair
		x              api.Elem
		was, want      string
		compared, made int
	}{
		// Turned left: where two losers meet, these are told apart too.
		{
			of(t, el(9, 1), el(8, 2), el(7, 3), el(6, 4)), el(5, 5),
			"<6:4 L(9:1 . 1 L(8:2 . 2 L(7:3 . 3 .))) 4>", "<5:5 L(8:2 L(9:1 . 1 .) 2 L(7:3 . 3 L(6:4 . 4 .))) 5>", 10, 5,
		},
		{
			of(t, el(1, 1), el(2, 2), el(3, 3), el(4, 4)), el(5, 5),
			"<1:1 R(2:2 . 1 R(3:3 . 2 R(4:4 . 3 .))) 4>", "<1:1 R(3:3 R(2:2 . 1 .) 2 R(4:4 . 3 R(5:5 . 4 .))) 5>", 9, 5,
		},
		// Turned right.
		{
			of(t, el(9, 5), el(8, 4), el(7, 3), el(6, 2)), el(5, 1),
			"<6:2 R(9:5 R(8:4 R(7:3 . 2 .) 3 .) 4 .) 5>", "<5:1 R(8:4 R(7:3 R(6:2 . 1 .) 2 .) 3 R(9:5 . 4 .)) 5>", 9, 5,
		},
		// Turned right, and then left.
		{
			of(t, el(9, 1), el(8, 5), el(7, 9), el(6, 3)), el(5, 4),
			"<6:3 L(9:1 . 1 R(7:9 R(8:5 . 3 .) 5 .)) 9>", "<5:4 L(6:3 L(9:1 . 1 .) 3 R(7:9 R(8:5 . 4 .) 5 .)) 9>", 9, 7,
		},
		// Turned left, and then right.
		{
			of(t, el(9, 9), el(8, 5), el(7, 1), el(6, 4)), el(5, 3),
			"<6:4 R(9:9 L(7:1 . 1 R(8:5 . 4 .)) 5 .) 9>", "<5:3 R(8:5 L(7:1 . 1 R(6:4 . 3 .)) 4 R(9:9 . 5 .)) 9>", 9, 7,
		},
		// Nothing is too heavy.
		{
			rising(t, []api.Elem{el(4, 1), el(3, 3), el(2, 5), el(1, 7)}), el(0, 9),
			"<1:7 L(3:3 L(4:1 . 1 .) 3 L(2:5 . 5 .)) 7>", "<0:9 L(3:3 L(4:1 . 1 .) 3 L(2:5 . 5 L(1:7 . 7 .))) 9>", 7, 3,
		},
	}
	for _, r := range rows {
		shows(t, "what is put into", r.from, r.was)
		m := meter.New()
		r.from.queue.Insert(m, r.x)
		counted(t, "Insert of "+text(r.x)+" into "+r.was, m, r.compared, r.made)
		shows(t, "Insert of "+text(r.x)+" into "+r.was, insert(t, r.from, r.x), r.want)
	}
}

// P13.3, P13.4: what is left is played and balanced too; whether its key or its place is told, the same is left.
func TestTakenOutAndBalanced(t *testing.T) {
	q := rising(t, []api.Elem{el(1, 1), el(2, 2), el(3, 3), el(4, 4), el(5, 5), el(6, 6), el(7, 7)})
	shows(t, "seven", q, "<1:1 R(4:4 R(2:2 . 1 R(3:3 . 2 .)) 3 R(6:6 R(5:5 . 4 .) 5 R(7:7 . 6 .))) 7>")
	for _, r := range []struct {
		key                  int64
		want                 string
		made, popped, looked int
	}{
		{1, "<2:2 R(4:4 R(3:3 . 2 .) 3 R(6:6 R(5:5 . 4 .) 5 R(7:7 . 6 .))) 7>", 1, 1, 4},
		{2, "<3:3 R(6:6 R(4:4 . 3 R(5:5 . 4 .)) 5 R(7:7 . 6 .)) 7>", 2, 1, 4},
	} {
		m := meter.New()
		q.queue.Pop(m)
		counted(t, "Pop", m, r.popped, r.made)
		m = meter.New()
		q.queue.Delete(m, r.key)
		counted(t, "Delete of "+number(r.key), m, r.looked+r.popped, r.made)
		popped, _ := pop(t, q)
		shows(t, "Pop", popped, r.want)
		q, _ = remove(t, q, r.key)
		shows(t, "Delete of "+number(r.key), q, r.want)
	}
}

// P13.4: the least one's place is gone, those that it won against are played once more, from the place up.
func TestPop(t *testing.T) {
	for _, r := range []struct {
		l              []api.Elem
		want           string
		compared, made int
	}{
		{[]api.Elem{el(2, 5)}, ".", 0, 0},
		{[]api.Elem{el(2, 5), el(1, 9)}, "<2:5 . 5>", 0, 0},
		{[]api.Elem{el(1, 5), el(2, 9)}, "<2:9 . 9>", 0, 0},
		{[]api.Elem{el(1, 1), el(3, 3), el(2, 5)}, "<2:5 L(3:3 . 3 .) 5>", 0, 0},
		{[]api.Elem{el(2, 1), el(1, 3), el(3, 5)}, "<2:1 R(3:5 . 1 .) 5>", 1, 1},
		{[]api.Elem{el(3, 1), el(2, 3), el(1, 5)}, "<2:3 L(3:1 . 1 .) 3>", 1, 1},
		{[]api.Elem{el(4, 1), el(2, 3), el(3, 5), el(1, 7)}, "<2:3 R(3:5 L(4:1 . 1 .) 3 .) 5>", 1, 1},
		{[]api.Elem{el(1, 1), el(2, 3), el(3, 5), el(4, 7)}, "<2:3 R(3:5 . 3 R(4:7 . 5 .)) 7>", 1, 1},
		{[]api.Elem{el(2, 1), el(1, 3), el(4, 5), el(3, 7)}, "<2:1 R(3:7 . 1 L(4:5 . 5 .)) 7>", 1, 1},
	} {
		q := rising(t, r.l)
		m := meter.New()
		if _, is := q.queue.Pop(m); !is {
			t.Errorf("Pop() of %s: false", q.queue.Show())
		}
		counted(t, "Pop of "+q.queue.Show(), m, r.compared, r.made)
		p, _ := pop(t, q)
		shows(t, "Pop of "+q.queue.Show(), p, r.want)
	}
}

// P13.4: popped until none is left: all come in order.
func TestPopUntilNone(t *testing.T) {
	for n := range 60 {
		l := odd(n)
		for _, q := range []pair{rising(t, l), of(t, l...)} {
			left := slices.Clone(l)
			for len(left) > 0 {
				x, is := q.queue.Min(nil)
				if !is || x != least(left) {
					t.Fatalf("Min() of %v = %v, %v", left, x, is)
				}
				i := slices.Index(left, x)
				left = slices.Delete(left, i, i+1)
				q, is = pop(t, q)
				proper(t, "Pop", q.queue, left)
				if !is {
					t.Fatalf("Pop() of %d elements: false", len(left)+1)
				}
			}
			if r, is := q.queue.Pop(nil); is || r != (pennant.Queue{}) || q.queue != r {
				t.Errorf("Pop() of none = %s, %v", r.Show(), is)
			}
		}
	}
}

// P13.4: All is in new memory: what is written there turns no queue, and no other answer.
func TestAllInNewMemory(t *testing.T) {
	for n := range 40 {
		q := rising(t, odd(n))
		first, second := q.queue.All(), q.queue.All()
		whole := first[:cap(first)]
		for i := range whole {
			whole[i] = el(-99, -99)
		}
		if !slices.Equal(second, odd(n)) {
			t.Errorf("All() shares what it answered: %v", second)
		}
		holds(t, "behind a write into an answer", q)
	}
}

// P13.4: the parts of none, of one and of many: which of both has who won.
func TestParts(t *testing.T) {
	for _, r := range []struct {
		l             []api.Elem
		first, second string
		is            bool
	}{
		{nil, ".", ".", false},
		{[]api.Elem{el(2, 5)}, ".", ".", false},
		{[]api.Elem{el(2, 5), el(1, 9)}, "<2:5 . 5>", "<1:9 . 9>", true},
		{[]api.Elem{el(1, 5), el(2, 9)}, "<1:5 . 5>", "<2:9 . 9>", true},
		{[]api.Elem{el(2, 5), el(2, 9)}, "<2:5 . 5>", "<2:9 . 9>", true},
		{[]api.Elem{el(1, 1), el(3, 3), el(2, 5)}, "<1:1 . 1>", "<2:5 L(3:3 . 3 .) 5>", true},
		{[]api.Elem{el(4, 1), el(2, 3), el(3, 5), el(1, 7)}, "<2:3 L(4:1 . 1 .) 3>", "<1:7 L(3:5 . 5 .) 7>", true},
		{[]api.Elem{el(1, 1), el(2, 3), el(4, 5), el(3, 7)}, "<1:1 R(2:3 . 1 .) 3>", "<3:7 L(4:5 . 5 .) 7>", true},
	} {
		q := rising(t, r.l).queue
		first, second, is := q.Parts()
		if first.Show() != r.first || second.Show() != r.second || is != r.is {
			t.Errorf("Parts() of %s = %s, %s, %v", q.Show(), first.Show(), second.Show(), is)
		}
	}
}

// P13.5: parts are queues as others are: whatever is done with them, they are right, and so is what they are parts of.
func TestPartsAreQueues(t *testing.T) {
	for n := 2; n < 40; n++ {
		q := rising(t, odd(n))
		first, second, _ := q.queue.Parts()
		wantFirst, wantSecond, _ := q.want.parts()
		for _, p := range []pair{{first, wantFirst}, {second, wantSecond}} {
			holds(t, "Insert into a part", insert(t, p, el(-5, 1000)))
			holds(t, "Insert into a part", insert(t, p, el(50, -1000)))
			r, _ := pop(t, p)
			holds(t, "Pop of a part", r)
			for _, x := range p.want.all() {
				lookup(t, p, x.Id)
				r, is := remove(t, p, x.Id)
				holds(t, "Delete from a part", r)
				if !is {
					t.Errorf("Delete(%d) in a part of %s: false", x.Id, q.queue.Show())
				}
			}
			holds(t, "a part", p)
		}
		holds(t, "what they are parts of", q)
	}
}

// P13.1 to P13.4: keys, and priorities, at both ends of 64 bits are as others are.
func TestEnds(t *testing.T) {
	low, high := "-9223372036854775808", "9223372036854775807"
	q := of(t, el(math.MaxInt64, math.MinInt64), el(math.MinInt64, math.MaxInt64))
	shows(t, "both ends", q, "<"+low+":"+high+" L("+high+":"+low+" . "+low+" .) "+high+">")
	q = insert(t, q, el(0, 0))
	shows(t, "and between", q, "<"+low+":"+high+" L("+high+":"+low+" . "+low+" L(0:0 . 0 .)) "+high+">")
	for _, turn := range []int{1, 2, 4, 5, 7, 8} {
		var p pair
		priorities := map[int64]int64{}
		for i := range ends() {
			key, priority := ends()[i*turn%9], ends()[(i*i+turn)%9]
			p, priorities[key] = insert(t, p, el(priority, key)), priority
			holds(t, "Insert", p)
			proper(t, "Insert", p.queue, sorted(priorities))
		}
		atEnds(t, p, priorities)
	}
}

// atEnds does all there is to do at the ends of 64 bits with a queue that is such a map.
func atEnds(t *testing.T, p pair, priorities map[int64]int64) {
	t.Helper()
	for _, key := range ends() {
		got, is := lookup(t, p, key)
		if want, there := priorities[key]; got != want || is != there {
			t.Errorf("Lookup(%d) = %d, %v, want %d, %v", key, got, is, want, there)
		}
		for _, priority := range ends() {
			q, _ := adjust(t, p, key, priority)
			others := maps.Clone(priorities)
			if _, there := others[key]; there {
				others[key] = priority
			}
			proper(t, "Adjust", q.queue, sorted(others))
		}
		q, _ := remove(t, p, key)
		others := maps.Clone(priorities)
		delete(others, key)
		proper(t, "Delete", q.queue, sorted(others))
	}
	for p.queue.Size() > 0 {
		p, _ = pop(t, p)
		holds(t, "Pop", p)
	}
}

// P13.4, P13.5: several keys of one priority: the least key wins.
func TestOnePriority(t *testing.T) {
	for n := 1; n < 50; n++ {
		var p pair
		for i := range n {
			p = insert(t, p, el(3, int64(i*7919%n*2)))
		}
		keys := map[int64]int64{}
		for _, x := range p.queue.All() {
			keys[x.Id] = x.P
		}
		for p.queue.Size() > 0 {
			l := p.queue.All()
			if x, _ := p.queue.Min(nil); x != l[0] {
				t.Errorf("Min() of %s = %v", p.queue.Show(), x)
			}
			proper(t, "one priority", p.queue, l)
			p, _ = pop(t, p)
			proper(t, "one priority, popped", p.queue, l[1:])
		}
		if keys[0] != 3 {
			t.Errorf("0 isn't there: %v", keys)
		}
	}
}

// history is a version, and the map that it is.
type history struct {
	p          pair
	priorities map[int64]int64
}

// random is numbers one after the other, the same ones each time.
type random uint64

func (r *random) below(n int64) int64 {
	*r = *r*6364136223846793005 + 1442695040888963407
	return int64(uint64(*r) >> 33 % uint64(n))
}

// next is a version with something done to it, and the map that it has to be then.
func (h history) next(t *testing.T, r *random, keys, priorities int64) history {
	t.Helper()
	key, p := r.below(keys)-keys/2, r.below(priorities)-priorities/2
	then := maps.Clone(h.priorities)
	was, there := then[key]
	switch r.below(8) {
	case 0, 1, 2:
		then[key] = p
		return history{insert(t, h.p, el(p, key)), then}
	case 3, 4:
		q, is := remove(t, h.p, key)
		delete(then, key)
		if is != there {
			t.Fatalf("Delete(%d): %v", key, is)
		}
		return history{q, then}
	case 5:
		q, is := adjust(t, h.p, key, p)
		if there {
			then[key] = p
		}
		if is != there {
			t.Fatalf("Adjust(%d): %v", key, is)
		}
		return history{q, then}
	case 6:
		if l := sorted(then); len(l) > 0 {
			delete(then, least(l).Id)
		}
		q, _ := pop(t, h.p)
		return history{q, then}
	default:
		if got, is := lookup(t, h.p, key); is != there || is && got != was {
			t.Fatalf("Lookup(%d) = %d, %v", key, got, is)
		}
		return history{rising(t, sorted(then)), then}
	}
}

// P13.5: over many operations of all kinds a queue is a map; what others were made from stays as it is.
func TestHistories(t *testing.T) {
	r := random(5)
	for _, size := range []struct{ keys, priorities, versions int64 }{{4, 3, 300}, {12, 4, 400}, {60, 1000, 400}, {400, 9, 300}, {1 << 40, 1 << 40, 200}} {
		all := []history{{pair{}, map[int64]int64{}}}
		for range size.versions {
			// Most are made of the newest one, so that they grow.
			from := all[len(all)-1]
			if r.below(6) == 0 {
				from = all[r.below(int64(len(all)))]
			}
			next := from.next(t, &r, size.keys, size.priorities)
			proper(t, "just made", next.p.queue, sorted(next.priorities))
			all = append(all, next)
		}
		for _, h := range all {
			holds(t, "at the end", h.p)
			proper(t, "at the end", h.p.queue, sorted(h.priorities))
		}
	}
}

// grown fails, unless a queue into which keys were put, one by one, and taken out of again, is right all the way; and all versions stay.
func grown(t *testing.T, n int, key func(i int) int64, priority func(i int) int64) {
	t.Helper()
	var h history
	h.priorities = map[int64]int64{}
	var old []history
	for i := range n {
		x := el(priority(i), key(i))
		h = history{insert(t, h.p, x), maps.Clone(h.priorities)}
		h.priorities[x.Id] = x.P
		proper(t, "put in", h.p.queue, sorted(h.priorities))
		old = append(old, h)
	}
	top := h
	for i := range n {
		p, is := remove(t, h.p, key(i))
		if _, there := h.priorities[key(i)]; is != there {
			t.Fatalf("Delete(%d): %v", key(i), is)
		}
		h = history{p, maps.Clone(h.priorities)}
		delete(h.priorities, key(i))
		proper(t, "taken out", h.p.queue, sorted(h.priorities))
	}
	if h.p.queue != (pennant.Queue{}) {
		t.Errorf("all taken out: %s", h.p.queue.Show())
	}
	for top.p.queue.Size() > 0 {
		top.p, _ = pop(t, top.p)
		proper(t, "popped", top.p.queue, top.p.want.all())
	}
	for _, o := range old {
		same(t, "an old version", o.p.queue, o.p.want)
		proper(t, "an old version", o.p.queue, sorted(o.priorities))
	}
}

// P13.5: queues that grow at one end, at both, in the middle, and anywhere, whoever wins.
func TestGrowing(t *testing.T) {
	const n = 60
	keys := []func(i int) int64{
		func(i int) int64 { return int64(i) },
		func(i int) int64 { return int64(-i) },
		func(i int) int64 { return int64((1 - i%2*2) * i) },
		func(i int) int64 { return int64((1 - i%2*2) * (1000 - i)) },
		func(i int) int64 { return int64(i * 37 % 71) },
		func(i int) int64 { return int64(i * i % 53) },
	}
	priorities := []func(i int) int64{
		func(i int) int64 { return int64(i) },
		func(i int) int64 { return int64(-i) },
		func(i int) int64 { return 4 },
		func(i int) int64 { return int64(i * 41 % 23) },
	}
	for _, key := range keys {
		for _, priority := range priorities {
			grown(t, n, key, priority)
		}
	}
}

// P13.1 to P13.5: very many keys: no call takes more than a few steps for each bit of their number, and all are told by rising keys.
func TestVeryMany(t *testing.T) {
	const n = 1 << 15
	for _, key := range []func(i int) int64{
		func(i int) int64 { return int64(i) },
		func(i int) int64 { return int64(n - 1 - i) },
		func(i int) int64 { return int64(i * 12345 % n) },
	} {
		var q pennant.Queue
		for i := range n {
			q = q.Insert(nil, el(key(i)*7919%n, key(i)))
		}
		manyAreTold(t, q, n)
		var deleted bool
		for i := range n / 2 {
			if q, deleted = q.Delete(nil, key(i*2)); !deleted {
				t.Fatalf("Delete(%d): false", key(i*2))
			}
		}
		if q.Size() != n/2 || q.Deep() > 3*16 {
			t.Errorf("Size() = %d, Deep() = %d", q.Size(), q.Deep())
		}
		last := int64(-1)
		for q.Size() > 0 {
			x, _ := q.Min(nil)
			if x.P <= last {
				t.Fatalf("%v comes behind the priority %d", x, last)
			}
			last = x.P
			q, _ = q.Pop(nil)
		}
	}
}

// manyAreTold fails, unless a queue has the keys from 0 on, so many, each of a priority of its own, and they are found on short ways.
func manyAreTold(t *testing.T, q pennant.Queue, n int) {
	t.Helper()
	most := 3 * bits.Len(uint(n))
	if q.Size() != n || q.Deep() > most {
		t.Errorf("Size() = %d, Deep() = %d", q.Size(), q.Deep())
	}
	for i, x := range q.All() {
		if x != el(int64(i)*7919%int64(n), int64(i)) {
			t.Fatalf("All()[%d] = %v", i, x)
		}
		m := meter.New()
		if p, is := q.Lookup(m, x.Id); p != x.P || !is || m.Steps() > q.Deep()+2 {
			t.Fatalf("Lookup(%d) = %d, %v, %d steps", x.Id, p, is, m.Steps())
		}
	}
}

// P13.2: a row of very many whose keys rise.
func TestRisingOfVeryMany(t *testing.T) {
	const n = 1<<18 + 1
	l := make([]api.Elem, n)
	for i := range l {
		l[i] = el(int64(i*7919%1009), int64(i)-n/2)
	}
	m := meter.New()
	q, errno := pennant.Rising(m, l)
	counted(t, "Rising", m, n-1, n-1)
	if errno != api.OK || q.Size() != n || q.Deep() != 19 || !slices.Equal(q.All(), l) {
		t.Errorf("Rising: %v, Size() = %d, Deep() = %d", errno, q.Size(), q.Deep())
	}
	l[n-1].Id = l[n-2].Id
	refused(t, l)
}

// P13.1 to P13.4: one meter counts all calls together; what only asks counts nothing.
func TestStepsTogether(t *testing.T) {
	m := meter.New()
	q := pennant.Of(m, el(2, 5))
	counted(t, "one put into none", m, 0, 0)
	q = q.Insert(m, el(1, 9))
	counted(t, "and one above", m, 3, 1)
	q = q.Insert(m, el(4, 7))
	counted(t, "and one between", m, 7, 3)
	q.Lookup(m, 7)
	counted(t, "and one looked up", m, 11, 3)
	q.Min(m)
	q.Size()
	q.Deep()
	q.All()
	q.Parts()
	if got := q.Show(); got != "<1:9 L(2:5 . 5 L(4:7 . 7 .)) 9>" {
		t.Errorf("Show() = %s", got)
	}
	counted(t, "and asks", m, 11, 3)
	q, _ = q.Adjust(m, 7, 0)
	counted(t, "and one adjusted", m, 21, 5)
	if got := q.Show(); got != "<0:7 L(2:5 . 5 R(1:9 . 7 .)) 9>" {
		t.Errorf("Show() = %s", got)
	}
	q, _ = q.Pop(m)
	counted(t, "and one popped", m, 22, 6)
	q, _ = q.Delete(m, 5)
	counted(t, "and one taken out", m, 25, 6)
	if got := q.Show(); got != "<1:9 . 9>" || m.Steps() != 31 {
		t.Errorf("Show() = %s, %d steps", got, m.Steps())
	}
}
