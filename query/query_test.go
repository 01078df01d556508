package query_test

import (
	"maps"
	"math"
	"slices"
	"strconv"
	"testing"

	"slagheap/api"
	"slagheap/meter"
	"slagheap/pennant"
	"slagheap/query"
)

// model is how many comparisons the chapter takes.
type model struct{ compared int }

// below is how two priorities, or two keys, stand, which takes a comparison.
func (k *model) below(a, b int64) bool {
	k.compared++
	return a < b
}

func (k *model) atMost(q pennant.Queue, p int64) []api.Elem {
	if q.Size() == 0 {
		return nil
	}
	least, _ := q.Min(nil)
	if k.below(p, least.P) {
		return nil
	}
	first, second, is := q.Parts()
	if !is {
		return []api.Elem{least}
	}
	return append(k.atMost(first, p), k.atMost(second, p)...)
}

func (k *model) keys(q pennant.Queue, from, to int64) []int64 {
	if q.Size() == 0 {
		return nil
	}
	a, b, is := q.Parts()
	if !is {
		key := q.All()[0].Id
		if k.below(key, from) || k.below(to, key) {
			return nil
		}
		return []int64{key}
	}
	var l []int64
	g := a.All()[a.Size()-1].Id
	if !k.below(g, from) {
		l = append(l, k.keys(a, from, to)...)
	}
	if k.below(g, to) {
		l = append(l, k.keys(b, from, to)...)
	}
	return l
}

// top is what Top tells of a queue that isn't asked for fewer than none; its steps are pennant's.
func top(m *meter.Meter, q pennant.Queue, k int) []api.Elem {
	var l []api.Elem
	for q.Size() > 0 && len(l) < k {
		x, _ := q.Min(m)
		l = append(l, x)
		if len(l) < k {
			q, _ = q.Pop(m)
		}
	}
	return l
}

// el is the element of a priority and a key.
func el(p, key int64) api.Elem { return api.Elem{P: p, Id: key} }

// number is a number's text.
func number(n int64) string { return strconv.FormatInt(n, 10) }

// before is the order of elements, by what the document says of it.
func before(a, b api.Elem) bool { return a.P < b.P || a.P == b.P && a.Id < b.Id }

// ordered is a row in order, put so one by one.
func ordered(l []api.Elem) []api.Elem {
	var sorted []api.Elem
	for _, x := range l {
		i := 0
		for i < len(sorted) && before(sorted[i], x) {
			i++
		}
		sorted = slices.Insert(sorted, i, x)
	}
	return sorted
}

// cheap are those of a row whose priority is at most p, as they come.
func cheap(l []api.Elem, p int64) []api.Elem {
	var some []api.Elem
	for _, x := range l {
		if x.P <= p {
			some = append(some, x)
		}
	}
	return some
}

// within are the keys of a row that aren't below from, nor above to, as they come.
func within(l []api.Elem, from, to int64) []int64 {
	var some []int64
	for _, x := range l {
		if x.Id >= from && x.Id <= to {
			some = append(some, x.Id)
		}
	}
	return some
}

// rising are a map's elements, by rising keys.
func rising(priorities map[int64]int64) []api.Elem {
	var l []api.Elem
	for _, key := range slices.Sorted(maps.Keys(priorities)) {
		l = append(l, el(priorities[key], key))
	}
	return l
}

// ends are numbers at both ends of what 64 bits hold, and between.
func ends() []int64 {
	return []int64{math.MinInt64, math.MinInt64 + 1, -10, -1, 0, 1, 10, math.MaxInt64 - 1, math.MaxInt64}
}

// counts are how many elements Top is asked for, of a queue of so many: the edges, and all between.
func counts(n int) []int {
	l := []int{math.MinInt, -1, n + 1, n + 2, 2*n + 7, 1 << 31, math.MaxInt - 1, math.MaxInt}
	for k := range n + 1 {
		l = append(l, k)
	}
	return l
}

// halved is a queue of elements whose keys rise, made half by half.
func halved(t *testing.T, l ...api.Elem) pennant.Queue {
	t.Helper()
	q, errno := pennant.Rising(nil, l)
	if errno != api.OK {
		t.Fatalf("Rising(%v): %v", l, errno)
	}
	return q
}

// odd is a queue of the keys 1, 3, 5 and so on, so many, of priorities that are scattered, several of them the same, and some below 0.
func odd(t *testing.T, n int) (pennant.Queue, []api.Elem) {
	t.Helper()
	var l []api.Elem
	for i := range n {
		l = append(l, el(int64(i*37%11)-4, int64(2*i+1)))
	}
	return halved(t, l...), l
}

// counted fails, unless so many comparisons and things made were counted since the meter was new.
func counted(t *testing.T, what string, m *meter.Meter, compared, made int) {
	t.Helper()
	if c, n := m.Split(); c != compared || n != made {
		t.Fatalf("%s: %d comparisons, %d made, want %d, %d", what, c, n, compared, made)
	}
}

// stays fails, unless a queue shows what it did.
func stays(t *testing.T, what string, q pennant.Queue, show string) {
	t.Helper()
	if got := q.Show(); got != show {
		t.Fatalf("%s: the queue was %s, and is %s", what, show, got)
	}
}

// atMost is AtMost by a meter of its own, and without one, held against the chapter and against a row.
func atMost(t *testing.T, q pennant.Queue, p int64) []api.Elem {
	t.Helper()
	what, show := "AtMost "+number(p)+" of "+q.Show(), q.Show()
	m, k := meter.New(), &model{}
	got, want := query.AtMost(m, q, p), k.atMost(q, p)
	if !slices.Equal(got, want) || !slices.Equal(got, cheap(q.All(), p)) {
		t.Fatalf("%s = %v, want %v", what, got, want)
	}
	counted(t, what, m, k.compared, 0)
	if most := (2*q.Deep()+1)*len(got) + 1; m.Steps() > most {
		t.Fatalf("%s: %d steps, and %d at most", what, m.Steps(), most)
	}
	if again := query.AtMost(nil, q, p); !slices.Equal(again, want) {
		t.Fatalf("%s without a meter = %v, want %v", what, again, want)
	}
	stays(t, what, q, show)
	return got
}

// first is Top by a meter of its own, and without one, held against the chapter and against a sorted row.
func first(t *testing.T, q pennant.Queue, k int) []api.Elem {
	t.Helper()
	what, show := "Top "+strconv.Itoa(k)+" of "+q.Show(), q.Show()
	m, layer := meter.New(), meter.New()
	got, errno := query.Top(m, q, k)
	want, wantErrno := top(layer, q, k), api.OK
	if k < 0 {
		wantErrno = api.ErrCount
	}
	row := ordered(q.All())[:min(max(k, 0), q.Size())]
	if !slices.Equal(got, want) || !slices.Equal(got, row) || errno != wantErrno {
		t.Fatalf("%s = %v, %v, want %v, %v", what, got, errno, want, wantErrno)
	}
	compared, made := layer.Split()
	counted(t, what, m, compared, made)
	if again, errno := query.Top(nil, q, k); !slices.Equal(again, want) || errno != wantErrno {
		t.Fatalf("%s without a meter = %v, %v, want %v, %v", what, again, errno, want, wantErrno)
	}
	stays(t, what, q, show)
	return got
}

// keys is Keys by a meter of its own, and without one, held against the chapter and against a row.
func keys(t *testing.T, q pennant.Queue, from, to int64) []int64 {
	t.Helper()
	what, show := "Keys from "+number(from)+" to "+number(to)+" of "+q.Show(), q.Show()
	m, k := meter.New(), &model{}
	got, want := query.Keys(m, q, from, to), k.keys(q, from, to)
	if !slices.Equal(got, want) || !slices.Equal(got, within(q.All(), from, to)) {
		t.Fatalf("%s = %v, want %v", what, got, want)
	}
	counted(t, what, m, k.compared, 0)
	if again := query.Keys(nil, q, from, to); !slices.Equal(again, want) {
		t.Fatalf("%s without a meter = %v, want %v", what, again, want)
	}
	stays(t, what, q, show)
	return got
}

// P14.1: the chapter's example: a step for each part that is looked at.
func TestExample(t *testing.T) {
	q := pennant.Of(nil, el(2, 5), el(1, 9))
	m := meter.New()
	if got := query.AtMost(m, q, 1); !slices.Equal(got, []api.Elem{el(1, 9)}) {
		t.Errorf("AtMost 1 = %v", got)
	}
	counted(t, "the example", m, 3, 0)
	atMost(t, q, 1)
}

// P14.1 to P14.3: of none nothing is told, and no step is made; a count below 0 may not be there either.
func TestNone(t *testing.T) {
	one := pennant.Of(nil, el(0, 0))
	popped, _ := one.Pop(nil)
	deleted, _ := one.Delete(nil, 0)
	for _, q := range []pennant.Queue{{}, pennant.Of(nil), halved(t), popped, deleted} {
		m := meter.New()
		for _, p := range ends() {
			if l := query.AtMost(m, q, p); len(l) != 0 {
				t.Errorf("AtMost %d of none = %v", p, l)
			}
			for _, to := range ends() {
				if l := query.Keys(m, q, p, to); len(l) != 0 {
					t.Errorf("Keys from %d to %d of none = %v", p, to, l)
				}
			}
		}
		for _, k := range counts(0) {
			want := api.OK
			if k < 0 {
				want = api.ErrCount
			}
			if l, errno := query.Top(m, q, k); len(l) != 0 || errno != want {
				t.Errorf("Top %d of none = %v, %v", k, l, errno)
			}
		}
		counted(t, "none", m, 0, 0)
	}
}

// P14.1: of one: a step, also where it isn't told.
func TestAtMostOfOne(t *testing.T) {
	for _, priority := range ends() {
		for _, key := range ends() {
			x := el(priority, key)
			q := pennant.Of(nil, x)
			for _, p := range ends() {
				m := meter.New()
				got := query.AtMost(m, q, p)
				if told := len(got) == 1 && got[0] == x; told != (priority <= p) || !told && len(got) != 0 {
					t.Errorf("AtMost %d of %v = %v", p, x, got)
				}
				counted(t, "AtMost of one", m, 1, 0)
				atMost(t, q, p)
			}
		}
	}
}

// P14.1: of four, written out: which ones, by rising keys, and a step for each part that is looked at, also where nothing is told of it.
func TestAtMostOfFour(t *testing.T) {
	q := halved(t, el(4, 1), el(2, 3), el(3, 5), el(1, 7))
	stays(t, "four", q, "<1:7 L(2:3 L(4:1 . 1 .) 3 L(3:5 . 5 .)) 7>")
	for _, r := range []struct {
		p        int64
		want     []api.Elem
		compared int
	}{
		{math.MinInt64, nil, 1},
		{-1, nil, 1},
		{0, nil, 1},
		{1, []api.Elem{el(1, 7)}, 5},
		{2, []api.Elem{el(2, 3), el(1, 7)}, 7},
		{3, []api.Elem{el(2, 3), el(3, 5), el(1, 7)}, 7},
		{4, []api.Elem{el(4, 1), el(2, 3), el(3, 5), el(1, 7)}, 7},
		{5, []api.Elem{el(4, 1), el(2, 3), el(3, 5), el(1, 7)}, 7},
		{math.MaxInt64, []api.Elem{el(4, 1), el(2, 3), el(3, 5), el(1, 7)}, 7},
	} {
		m := meter.New()
		if got := query.AtMost(m, q, r.p); !slices.Equal(got, r.want) {
			t.Errorf("AtMost %d = %v, want %v", r.p, got, r.want)
		}
		counted(t, "AtMost "+number(r.p), m, r.compared, 0)
		atMost(t, q, r.p)
	}
}

// P14.1: a priority is below another one, whatever the keys: where both are the same the element is told, of a key below 0, of 0, and above.
func TestAtMostOfOnePriority(t *testing.T) {
	for _, priority := range ends() {
		var l []api.Elem
		for _, key := range ends() {
			l = append(l, el(priority, key))
			q := halved(t, l...)
			if got := atMost(t, q, priority); !slices.Equal(got, l) {
				t.Errorf("AtMost %d of %v = %v", priority, l, got)
			}
			if got := atMost(t, halved(t, el(priority, key)), priority); !slices.Equal(got, l[len(l)-1:]) {
				t.Errorf("AtMost %d of the key %d = %v", priority, key, got)
			}
			if priority == math.MinInt64 {
				continue
			}
			m := meter.New()
			if got := query.AtMost(m, q, priority-1); len(got) != 0 {
				t.Errorf("AtMost %d of %v = %v", priority-1, l, got)
			}
			counted(t, "AtMost below all", m, 1, 0)
		}
	}
}

// P14.1, P14.4: of many: at most each priority that is there, those between, below all and above all.
func TestAtMostOfMany(t *testing.T) {
	for n := range 60 {
		q, l := odd(t, n)
		for p := int64(-6); p <= 8; p++ {
			if got := atMost(t, q, p); !slices.Equal(got, cheap(l, p)) {
				t.Errorf("AtMost %d of %d elements = %v", p, n, got)
			}
		}
	}
}

// P14.1: of a queue with one cheap element: a step for each part on the way to it, and for each one beside that way; no part further down is looked at.
func TestAtMostOfOneCheap(t *testing.T) {
	for n := 1; n < 60; n++ {
		for i := range n {
			var l []api.Elem
			for key := range n {
				l = append(l, el(5, int64(key)))
			}
			l[i].P = -5
			q := halved(t, l...)
			m := meter.New()
			if got := query.AtMost(m, q, 0); !slices.Equal(got, l[i:i+1]) {
				t.Errorf("AtMost 0 of %v = %v", l, got)
			}
			counted(t, "AtMost 0 of "+q.Show(), m, 1+2*level(q, int64(i)), 0)
		}
	}
}

// level is in how many parts, one in the other, a key lies.
func level(q pennant.Queue, key int64) int {
	a, b, is := q.Parts()
	switch {
	case !is:
		return 0
	case key <= a.All()[a.Size()-1].Id:
		return 1 + level(a, key)
	default:
		return 1 + level(b, key)
	}
}

// P14.2: of a count below 0: ErrCount, and none, and no step, whatever the queue.
func TestTopBelowNone(t *testing.T) {
	for n := range 20 {
		q, _ := odd(t, n)
		m := meter.New()
		for _, k := range []int{-1, -2, -n, -n - 1, -1 << 31, math.MinInt + 1, math.MinInt} {
			if k == 0 {
				continue
			}
			if l, errno := query.Top(m, q, k); len(l) != 0 || errno != 24 {
				t.Errorf("Top %d of %d elements = %v, %v", k, n, l, errno)
			}
			first(t, q, k)
		}
		counted(t, "Top below 0", m, 0, 0)
	}
}

// P14.2: of one: no step, however many are asked for.
func TestTopOfOne(t *testing.T) {
	for _, p := range ends() {
		for _, key := range ends() {
			x := el(p, key)
			q, m := pennant.Of(nil, x), meter.New()
			for _, k := range counts(1) {
				got, errno := query.Top(m, q, k)
				if errno != api.OK && k >= 0 || k > 0 && !slices.Equal(got, []api.Elem{x}) || k < 1 && len(got) != 0 {
					t.Errorf("Top %d of %v = %v, %v", k, x, got, errno)
				}
				first(t, q, k)
			}
			counted(t, "Top of one", m, 0, 0)
		}
	}
}

// P14.2: of four, written out: no Pop behind the last one that is told.
func TestTopOfFour(t *testing.T) {
	q := halved(t, el(4, 1), el(2, 3), el(3, 5), el(1, 7))
	all := []api.Elem{el(1, 7), el(2, 3), el(3, 5), el(4, 1)}
	for _, r := range []struct{ k, told, compared, made int }{
		{0, 0, 0, 0}, {1, 1, 0, 0}, {2, 2, 1, 1}, {3, 3, 2, 2}, {4, 4, 2, 2}, {5, 4, 2, 2}, {1 << 40, 4, 2, 2}, {math.MaxInt, 4, 2, 2},
	} {
		m := meter.New()
		if got, errno := query.Top(m, q, r.k); !slices.Equal(got, all[:r.told]) || errno != api.OK {
			t.Errorf("Top %d = %v, %v", r.k, got, errno)
		}
		counted(t, "Top "+strconv.Itoa(r.k), m, r.compared, r.made)
		first(t, q, r.k)
	}
}

// P14.2: of several of one priority those of lesser keys come first.
func TestTopOfOnePriority(t *testing.T) {
	l := []api.Elem{el(3, -9), el(3, -1), el(-2, 0), el(3, 1), el(-2, 4), el(3, 9), el(-2, math.MaxInt64)}
	want := []api.Elem{el(-2, 0), el(-2, 4), el(-2, math.MaxInt64), el(3, -9), el(3, -1), el(3, 1), el(3, 9)}
	for k := range len(l) + 2 {
		if got := first(t, halved(t, l...), k); !slices.Equal(got, want[:min(k, len(l))]) {
			t.Errorf("Top %d of %v = %v", k, l, got)
		}
	}
}

// P14.2, P14.4: of many: each count from below 0 to far above how many there are; the Top of all is all, in order.
func TestTopOfMany(t *testing.T) {
	for n := range 40 {
		q, l := odd(t, n)
		for _, k := range counts(n) {
			first(t, q, k)
		}
		if got := first(t, q, n); !slices.Equal(got, ordered(l)) {
			t.Errorf("Top of all %d = %v", n, got)
		}
	}
}

// P14.3: of one: a second comparison only where the first one allows it.
func TestKeysOfOne(t *testing.T) {
	for _, key := range ends() {
		q := pennant.Of(nil, el(-7, key))
		for _, from := range ends() {
			for _, to := range ends() {
				m := meter.New()
				got := query.Keys(m, q, from, to)
				if told := len(got) == 1 && got[0] == key; told != (from <= key && key <= to) || !told && len(got) != 0 {
					t.Errorf("Keys from %d to %d of %d = %v", from, to, key, got)
				}
				if key < from {
					counted(t, "Keys of one below", m, 1, 0)
				} else {
					counted(t, "Keys of one", m, 2, 0)
				}
				keys(t, q, from, to)
			}
		}
	}
}

// P14.3: of four, written out: which keys, and how many steps: in what has parts both comparisons, whatever the first one tells.
func TestKeysOfFour(t *testing.T) {
	q := halved(t, el(4, 1), el(2, 3), el(3, 5), el(1, 7))
	for _, r := range []struct {
		from, to int64
		want     []int64
		compared int
	}{
		// All, and some, from and to there or not.
		{1, 7, []int64{1, 3, 5, 7}, 14}, {0, 8, []int64{1, 3, 5, 7}, 14}, {math.MinInt64, math.MaxInt64, []int64{1, 3, 5, 7}, 14},
		{3, 5, []int64{3, 5}, 10}, {2, 6, []int64{3, 5}, 12}, {1, 3, []int64{1, 3}, 8}, {5, 7, []int64{5, 7}, 8}, {3, 4, []int64{3}, 10},
		// The same key twice.
		{1, 1, []int64{1}, 6}, {3, 3, []int64{3}, 6}, {5, 5, []int64{5}, 6}, {7, 7, []int64{7}, 6},
		{0, 0, nil, 6}, {2, 2, nil, 6}, {4, 4, nil, 6}, {6, 6, nil, 6}, {8, 8, nil, 5},
		// Below all, and above all.
		{-5, -1, nil, 6}, {math.MinInt64, math.MinInt64, nil, 6}, {8, 9, nil, 5}, {math.MaxInt64, math.MaxInt64, nil, 5},
		// From above to.
		{5, 3, nil, 2}, {7, 1, nil, 2}, {4, 3, nil, 2}, {math.MaxInt64, math.MinInt64, nil, 2}, {2, 1, nil, 4}, {6, 5, nil, 4}, {3, 2, nil, 6}, {1, 0, nil, 6},
	} {
		m := meter.New()
		if got := query.Keys(m, q, r.from, r.to); !slices.Equal(got, r.want) {
			t.Errorf("Keys from %d to %d = %v, want %v", r.from, r.to, got, r.want)
		}
		counted(t, "Keys from "+number(r.from)+" to "+number(r.to), m, r.compared, 0)
		keys(t, q, r.from, r.to)
	}
}

// P14.3: of many: from and to each key that is there, each one between, below all and above all, and from above to.
func TestKeysOfMany(t *testing.T) {
	for n := range 18 {
		q, l := odd(t, n)
		for from := int64(-1); from <= int64(2*n+2); from++ {
			for to := int64(-1); to <= int64(2*n+2); to++ {
				if got := keys(t, q, from, to); !slices.Equal(got, within(l, from, to)) {
					t.Errorf("Keys from %d to %d of %d elements = %v", from, to, n, got)
				}
			}
		}
	}
}

// P14.3: a part's greatest key is that of its last element, whoever won there.
func TestKeysWhoeverWon(t *testing.T) {
	for n := 2; n < 20; n++ {
		for won := range n {
			var l []api.Elem
			for i := range n {
				l = append(l, el(int64(i*7%5), int64(i*10)))
			}
			l[won].P = -1
			q := halved(t, l...)
			for i := range n {
				keys(t, q, int64(i*10), int64(i*10))
				keys(t, q, int64(i*10-5), int64(won*10))
				keys(t, q, int64(won*10), int64(i*10+5))
			}
		}
	}
}

// P14.1 to P14.3: keys, and priorities, at both ends of 64 bits are as others are.
func TestEnds(t *testing.T) {
	for _, turn := range []int{1, 2, 4, 5, 7, 8} {
		var q pennant.Queue
		priorities := map[int64]int64{}
		for i := range ends() {
			key, p := ends()[i*turn%9], ends()[(i*i+turn)%9]
			q, priorities[key] = q.Insert(nil, el(p, key)), p
			answers(t, q, rising(priorities), ends())
		}
	}
}

// answers fails, unless all that is asked of a queue, at these numbers, is what it is of a row, by rising keys.
func answers(t *testing.T, q pennant.Queue, l []api.Elem, at []int64) {
	t.Helper()
	for _, n := range at {
		if got := atMost(t, q, n); !slices.Equal(got, cheap(l, n)) {
			t.Fatalf("AtMost %d of %v = %v", n, l, got)
		}
		for _, o := range at {
			if got := keys(t, q, n, o); !slices.Equal(got, within(l, n, o)) {
				t.Fatalf("Keys from %d to %d of %v = %v", n, o, l, got)
			}
		}
	}
	for _, k := range []int{-1, 0, 1, len(l) / 2, len(l) - 1, len(l), len(l) + 1, math.MaxInt} {
		if got := first(t, q, k); !slices.Equal(got, ordered(l)[:min(max(k, 0), len(l))]) {
			t.Fatalf("Top %d of %v = %v", k, l, got)
		}
	}
}

// P14.1 to P14.3: what is answered is new memory: what is written there turns no queue, and no other answer.
func TestNewMemory(t *testing.T) {
	for n := range 40 {
		q, l := odd(t, n)
		show := q.Show()
		elems := map[int][]api.Elem{}
		ids := map[int][]int64{}
		ask := func() {
			for k := range n + 1 {
				elems[3*k], _ = query.Top(nil, q, k)
				elems[3*k+1] = query.AtMost(nil, q, int64(k)-5)
				elems[3*k+2] = query.AtMost(nil, q, int64(k)-5)
				ids[2*k] = query.Keys(nil, q, 1, int64(k))
				ids[2*k+1] = query.Keys(nil, q, int64(k), math.MaxInt64)
			}
		}
		ask()
		for k := range n + 1 {
			for i, want := range [][]api.Elem{ordered(l)[:k], cheap(l, int64(k)-5), cheap(l, int64(k)-5)} {
				spoilt(t, elems[3*k+i], want, el(-99, -99))
			}
			spoilt(t, ids[2*k], within(l, 1, int64(k)), -99)
			spoilt(t, ids[2*k+1], within(l, int64(k), math.MaxInt64), -99)
		}
		stays(t, "behind a write into answers", q, show)
		answers(t, q, l, []int64{-1, 0, 3})
	}
}

// spoilt fails, unless an answer is still this one, whatever was written into others; then it is written full itself.
func spoilt[T comparable](t *testing.T, got, want []T, x T) {
	t.Helper()
	if !slices.Equal(got, want) {
		t.Fatalf("an answer is %v, want %v", got, want)
	}
	whole := got[:cap(got)]
	for i := range whole {
		whole[i] = x
	}
}

// history is a version, and the map that it is.
type history struct {
	q          pennant.Queue
	priorities map[int64]int64
}

// random is numbers one after the other, the same ones each time.
type random uint64

func (r *random) below(n int64) int64 {
	*r = *r*6364136223846793005 + 1442695040888963407
	return int64(uint64(*r) >> 33 % uint64(n))
}

// next is a version with something done to it, and the map that it has to be then.
func (h history) next(t *testing.T, r *random, keys, priorities int64) history {
	t.Helper()
	key, p := r.below(keys)-keys/2, r.below(priorities)-priorities/2
	q, then := h.q, maps.Clone(h.priorities)
	_, there := then[key]
	switch r.below(9) {
	case 0, 1, 2, 3:
		q, then[key] = q.Insert(nil, el(p, key)), p
	case 4:
		q, _ = q.Delete(nil, key)
		delete(then, key)
	case 5:
		q, _ = q.Adjust(nil, key, p)
		if there {
			then[key] = p
		}
	case 6:
		if l := ordered(rising(then)); len(l) > 0 {
			delete(then, l[0].Id)
		}
		q, _ = q.Pop(nil)
	case 7:
		q = halved(t, rising(then)...)
	default:
		q = pennant.Of(nil, ordered(rising(then))...)
	}
	return history{q, then}
}

// numbers are some of those at which a queue of such keys and priorities may be asked.
func numbers(r *random, keys, priorities int64) []int64 {
	return []int64{
		-keys - priorities, keys + priorities,
		r.below(keys) - keys/2, r.below(keys) - keys/2, r.below(keys) - keys/2,
		r.below(priorities) - priorities/2, r.below(priorities) - priorities/2,
	}
}

// P14.1 to P14.4: over many operations of all kinds a queue answers as the map that it is; what others were made from answers as it did.
func TestHistories(t *testing.T) {
	r := random(5)
	for _, size := range []struct{ keys, priorities, versions int64 }{{4, 3, 80}, {12, 4, 120}, {60, 1000, 120}, {200, 9, 120}, {1 << 40, 1 << 40, 80}} {
		all := []history{{pennant.Queue{}, map[int64]int64{}}}
		for range size.versions {
			// Most are made of the newest one, so that they grow.
			from := all[len(all)-1]
			if r.below(9) == 0 {
				from = all[r.below(int64(len(all)))]
			}
			next := from.next(t, &r, size.keys, size.priorities)
			answers(t, next.q, rising(next.priorities), numbers(&r, size.keys, size.priorities))
			all = append(all, next)
		}
		for _, h := range all {
			answers(t, h.q, rising(h.priorities), numbers(&r, size.keys, size.priorities))
		}
	}
}

// P14.1 to P14.4: parts are queues as others are.
func TestParts(t *testing.T) {
	for n := 2; n < 30; n++ {
		q, l := odd(t, n)
		a, b, _ := q.Parts()
		at := []int64{-4, -1, 0, 5, int64(n), int64(2 * n)}
		answers(t, a, l[:a.Size()], at)
		answers(t, b, l[a.Size():], at)
	}
}

// grown is a queue of so many keys from 0 on, put in one by one, the priorities all unlike.
func grown(n int, key func(i int) int64) (pennant.Queue, []api.Elem) {
	var q pennant.Queue
	for i := range n {
		q = q.Insert(nil, el(key(i)*7919%int64(n), key(i)))
	}
	return q, q.All()
}

// P14.1 to P14.4: of very many few are found on short ways, and all are told.
func TestVeryMany(t *testing.T) {
	const n = 1 << 15
	for _, key := range []func(i int) int64{
		func(i int) int64 { return int64(i) },
		func(i int) int64 { return int64(n - 1 - i) },
		func(i int) int64 { return int64(i * 12345 % n) },
	} {
		q, l := grown(n, key)
		for _, p := range []int64{-1, 0, 1, 5, 100, n / 2, n - 1, n} {
			m := meter.New()
			got := query.AtMost(m, q, p)
			if !slices.Equal(got, cheap(l, p)) || len(got) != int(min(p+1, n)) {
				t.Errorf("AtMost %d: %d elements", p, len(got))
			}
			if most := (2*q.Deep()+1)*len(got) + 1; m.Steps() > most || m.Steps() > 4*n {
				t.Errorf("AtMost %d: %d steps, and %d at most", p, m.Steps(), most)
			}
		}
		manyKeys(t, q, l)
		got, errno := query.Top(nil, q, n)
		if errno != api.OK || len(got) != n {
			t.Fatalf("Top of all: %d elements, %v", len(got), errno)
		}
		for i, x := range got {
			if x.P != int64(i) || x.P != x.Id*7919%n {
				t.Fatalf("Top of all: %v at the place %d", x, i)
			}
		}
	}
}

// manyKeys fails, unless a queue of very many tells the keys of a row: the steps are those of the ways to both ends, and between them.
func manyKeys(t *testing.T, q pennant.Queue, l []api.Elem) {
	t.Helper()
	n := int64(len(l))
	for _, r := range [][2]int64{{-5, -1}, {0, 0}, {n / 3, n/3 + 9}, {n - 1, n - 1}, {n, n + 5}, {n / 2, n / 4}, {-1, n}, {n / 4, n / 2}} {
		m := meter.New()
		got := query.Keys(m, q, r[0], r[1])
		if !slices.Equal(got, within(l, r[0], r[1])) {
			t.Errorf("Keys from %d to %d: %d keys", r[0], r[1], len(got))
		}
		if most := 4*q.Deep() + 4*len(got) + 4; m.Steps() > most {
			t.Errorf("Keys from %d to %d: %d steps, and %d at most", r[0], r[1], m.Steps(), most)
		}
	}
}

// P14.1 to P14.3: one meter counts all calls together, and what was counted ahead of them stays.
func TestStepsTogether(t *testing.T) {
	m := meter.New()
	q := pennant.Of(m, el(2, 5), el(1, 9), el(4, 7))
	stays(t, "three", q, "<1:9 L(2:5 . 5 L(4:7 . 7 .)) 9>")
	counted(t, "three put in", m, 7, 3)
	query.AtMost(m, q, 2)
	counted(t, "and those of 2 at most", m, 12, 3)
	query.AtMost(m, q, 0)
	counted(t, "and those of 0 at most", m, 13, 3)
	query.Keys(m, q, 6, 7)
	counted(t, "and the keys from 6 to 7", m, 19, 3)
	query.Top(m, q, -1)
	query.Top(m, q, 0)
	query.Top(m, q, 1)
	counted(t, "and the first one", m, 19, 3)
	query.Top(m, q, 2)
	counted(t, "and the first two", m, 20, 4)
	query.Top(m, q, 9)
	counted(t, "and all", m, 21, 5)
}
