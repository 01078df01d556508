package meter

import (
	"math"
	"sync"
	"testing"

	"slagheap/api"
	"slagheap/elem"
)

// elems are elements around which an order goes wrong first.
var elems = []api.Elem{
	{P: math.MinInt64, Id: math.MaxInt64}, {P: -5, Id: 3}, {P: -5, Id: 4}, {},
	{P: 0, Id: 1}, {P: 7, Id: math.MinInt64}, {P: 7, Id: math.MaxInt64}, {P: math.MaxInt64, Id: math.MinInt64},
}

// counts fails, unless all that a meter tells is that so many were counted.
func counts(t *testing.T, m *Meter, compared, made int) {
	t.Helper()
	if c, n := m.Split(); c != compared || n != made {
		t.Errorf("Split() = %d, %d, want %d, %d", c, n, compared, made)
	}
	if got := m.Steps(); got != compared+made {
		t.Errorf("Steps() = %d, want %d", got, compared+made)
	}
	for _, from := range []int{0, 1, compared, made, compared + made, compared + made + 9, -3} {
		if got := m.Since(from); got != compared+made-from {
			t.Errorf("Since(%d) = %d, want %d", from, got, compared+made-from)
		}
	}
}

// P2.1, P2.2: less twice, Made of 3: 2, 3; 5 steps.
func TestExample(t *testing.T) {
	m := New()
	m.Less(elems[0], elems[1])
	m.Less(elems[1], elems[0])
	m.Made(3)
	counts(t, m, 2, 3)
	if got := m.Since(1); got != 4 {
		t.Errorf("Since(1) = %d", got)
	}
}

// P2.1: a new meter has counted none, whatever another one has.
func TestNew(t *testing.T) {
	first := New()
	if first == nil {
		t.Fatal("New() = nil")
	}
	counts(t, first, 0, 0)
	first.Less(elems[0], elems[1])
	first.Made(7)
	second := New()
	counts(t, second, 0, 0)
	second.Made(1)
	second.Less(elems[1], elems[1])
	second.Less(elems[1], elems[2])
	counts(t, first, 1, 7)
	counts(t, second, 2, 1)
}

// P2.1: Less tells as elem.Less does, and counts each time, whatever it tells.
func TestLess(t *testing.T) {
	m := New()
	calls := 0
	for i, a := range elems {
		for j, b := range elems {
			got := m.Less(a, b)
			calls++
			// The elements are written in order, so their places tell how any two stand.
			if got != (i < j) || got != elem.Less(a, b) {
				t.Errorf("Less(%v, %v) = %v", a, b, got)
			}
			counts(t, m, calls, 0)
		}
	}
}

// P2.1: Made counts so many things, and no comparison.
func TestMade(t *testing.T) {
	m := New()
	sum := 0
	for _, n := range []int{1, 2, 1, 4096, 1 << 20, 1} {
		m.Made(n)
		sum += n
		counts(t, m, 0, sum)
	}
	most := New()
	most.Made(math.MaxInt32)
	counts(t, most, 0, math.MaxInt32)
}

// P2.1: Made of a number below 1 counts none, and takes none back.
func TestMadeBelowOne(t *testing.T) {
	m := New()
	below := []int{0, -1, -2, math.MinInt32, math.MinInt}
	for _, n := range below {
		m.Made(n)
		counts(t, m, 0, 0)
	}
	m.Made(5)
	m.Less(elems[0], elems[0])
	for _, n := range below {
		m.Made(n)
		counts(t, m, 1, 5)
	}
}

// P2.2: Since tells the steps behind a mark; asking counts nothing.
func TestSince(t *testing.T) {
	m := New()
	m.Made(4)
	m.Less(elems[3], elems[2])
	mark := m.Steps()
	if got := m.Since(mark); got != 0 {
		t.Errorf("Since of just now = %d", got)
	}
	m.Less(elems[3], elems[2])
	m.Less(elems[2], elems[3])
	m.Made(10)
	for range 3 {
		if got := m.Since(mark); got != 12 {
			t.Errorf("Since(%d) = %d, want 12", mark, got)
		}
	}
	counts(t, m, 3, 14)
}

// P2.2: nil tells as elem.Less does, and all else of it is 0.
func TestNil(t *testing.T) {
	var m *Meter
	none := func() {
		t.Helper()
		if c, n := m.Split(); c != 0 || n != 0 {
			t.Errorf("Split() of nil = %d, %d", c, n)
		}
		if got := m.Steps(); got != 0 {
			t.Errorf("Steps() of nil = %d", got)
		}
		for _, from := range []int{0, 1, 5, -1, -5, math.MaxInt, math.MinInt} {
			if got := m.Since(from); got != 0 {
				t.Errorf("Since(%d) of nil = %d", from, got)
			}
		}
	}
	none()
	for i, a := range elems {
		for j, b := range elems {
			if got := m.Less(a, b); got != (i < j) {
				t.Errorf("Less(%v, %v) of nil = %v", a, b, got)
			}
		}
	}
	for _, n := range []int{3, 1, 0, -1, math.MaxInt, math.MinInt} {
		m.Made(n)
	}
	none()
}

// P2.1, P2.2: no count is lost by a meter that several have in hand.
func TestSeveral(t *testing.T) {
	const hands, rounds = 8, 20000
	m := New()
	var all sync.WaitGroup
	for range hands {
		all.Go(func() {
			for range rounds {
				m.Less(elems[1], elems[2])
				m.Made(2)
				m.Made(-1)
			}
		})
	}
	all.Wait()
	counts(t, m, hands*rounds, 2*hands*rounds)
}
