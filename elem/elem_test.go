package elem

import (
	"math"
	"math/big"
	"regexp"
	"slices"
	"strings"
	"testing"

	"slagheap/api"
)

// edges are the numbers around which an order, or a text, goes wrong first.
var edges = []int64{math.MinInt64, math.MinInt64 + 1, -1 << 32, -10, -5, -1, 0, 1, 5, 10, 1 << 32, math.MaxInt64 - 1, math.MaxInt64}

// edgeElems are all elements of two edges, in order by how they are made.
func edgeElems() []api.Elem {
	var l []api.Elem
	for _, p := range edges {
		for _, id := range edges {
			l = append(l, api.Elem{P: p, Id: id})
		}
	}
	return l
}

// mixed is some elements in no order, each twice.
func mixed() []api.Elem {
	l := edgeElems()
	var out []api.Elem
	for i := range 2 * len(l) {
		out = append(out, l[i*101%len(l)])
	}
	return out
}

// P1.1: the order is by P, of one P by Id.
func TestOrderOfExamples(t *testing.T) {
	rows := []struct {
		a, b api.Elem
		want int
	}{
		{api.Elem{P: -5, Id: 3}, api.Elem{P: -5, Id: 4}, -1},
		{api.Elem{P: -5, Id: 3}, api.Elem{P: 0, Id: 0}, -1},
		{api.Elem{P: 1, Id: 9}, api.Elem{P: 2, Id: 0}, -1},
		{api.Elem{P: 2, Id: 0}, api.Elem{P: 1, Id: 9}, 1},
		{api.Elem{P: 7, Id: -1}, api.Elem{P: 7, Id: -2}, 1},
		{api.Elem{P: 7, Id: 7}, api.Elem{P: 7, Id: 7}, 0},
		{api.Elem{}, api.Elem{}, 0},
		{api.Elem{P: math.MinInt64}, api.Elem{P: math.MaxInt64}, -1},
		{api.Elem{P: math.MaxInt64}, api.Elem{P: math.MinInt64}, 1},
		{api.Elem{Id: math.MinInt64}, api.Elem{Id: math.MaxInt64}, -1},
		{api.Elem{Id: math.MaxInt64}, api.Elem{Id: math.MinInt64}, 1},
		{api.Elem{P: math.MaxInt64, Id: math.MinInt64}, api.Elem{P: -1, Id: math.MaxInt64}, 1},
	}
	for _, r := range rows {
		if got := Compare(r.a, r.b); got != r.want {
			t.Errorf("Compare(%v, %v) = %d, want %d", r.a, r.b, got, r.want)
		}
		if got := Less(r.a, r.b); got != (r.want < 0) {
			t.Errorf("Less(%v, %v) = %v", r.a, r.b, got)
		}
	}
}

// P1.1: edgeElems are made in order, so their places tell how any two stand.
func TestOrderOfAllEdges(t *testing.T) {
	l := edgeElems()
	for i, a := range l {
		for j, b := range l {
			want := 0
			if i < j {
				want = -1
			} else if i > j {
				want = 1
			}
			if Compare(a, b) != want || Less(a, b) != (i < j) {
				t.Fatalf("%v, %v: Compare %d, Less %v, want %d", a, b, Compare(a, b), Less(a, b), want)
			}
		}
	}
}

// P1.1: of no elements there is no least one.
func TestLeastOfNone(t *testing.T) {
	if e, is := Least(); is || e != (api.Elem{}) {
		t.Errorf("Least() = %v, %v", e, is)
	}
	if e, is := Least([]api.Elem{}...); is || e != (api.Elem{}) {
		t.Errorf("Least of an empty list = %v, %v", e, is)
	}
}

// P1.1: wherever the least one stands, it is told.
func TestLeast(t *testing.T) {
	low, high := api.Elem{P: math.MinInt64, Id: math.MinInt64}, api.Elem{P: math.MaxInt64, Id: math.MaxInt64}
	a, b := api.Elem{P: 3, Id: 1}, api.Elem{P: 3, Id: 2}
	rows := []struct {
		l    []api.Elem
		want api.Elem
	}{
		{[]api.Elem{high}, high},
		{[]api.Elem{{}}, api.Elem{}},
		{[]api.Elem{a, b, high}, a},
		{[]api.Elem{b, a, high}, a},
		{[]api.Elem{high, b, a}, a},
		{[]api.Elem{b, b, b}, b},
		{[]api.Elem{high, a, low, b, low}, low},
	}
	for _, r := range rows {
		before := slices.Clone(r.l)
		if got, is := Least(r.l...); !is || got != r.want {
			t.Errorf("Least(%v) = %v, %v", r.l, got, is)
		}
		if !slices.Equal(r.l, before) {
			t.Errorf("Least changed its list: %v", r.l)
		}
	}
}

// P1.1: all elements, in order, as often as they are there.
func TestSort(t *testing.T) {
	var want []api.Elem
	for _, e := range edgeElems() {
		want = append(want, e, e)
	}
	if got := Sort(mixed()); !slices.Equal(got, want) {
		t.Errorf("Sort = %v", got)
	}
	down := slices.Clone(want)
	slices.Reverse(down)
	if got := Sort(down); !slices.Equal(got, want) {
		t.Errorf("Sort of the other way round = %v", got)
	}
}

// P1.1: few elements, and equal ones.
func TestSortOfFew(t *testing.T) {
	if got := Sort(nil); len(got) != 0 {
		t.Errorf("Sort(nil) = %v", got)
	}
	if got := Sort([]api.Elem{}); len(got) != 0 {
		t.Errorf("Sort of none = %v", got)
	}
	e := api.Elem{P: 4, Id: 4}
	if got := Sort([]api.Elem{e}); !slices.Equal(got, []api.Elem{e}) {
		t.Errorf("Sort of one = %v", got)
	}
	if got := Sort([]api.Elem{e, e, e}); !slices.Equal(got, []api.Elem{e, e, e}) {
		t.Errorf("Sort of equal ones = %v", got)
	}
	one := []api.Elem{{P: 1, Id: 3}, {P: 1, Id: -3}, {P: 1, Id: 0}}
	want := []api.Elem{{P: 1, Id: -3}, {P: 1, Id: 0}, {P: 1, Id: 3}}
	if got := Sort(one); !slices.Equal(got, want) {
		t.Errorf("Sort of one P = %v", got)
	}
}

// P1.1: what is handed in stays, and what is told is new memory (rule 3).
func TestSortInNewMemory(t *testing.T) {
	for _, l := range [][]api.Elem{mixed(), edgeElems(), {{P: 1, Id: 1}}} {
		before := slices.Clone(l)
		got := Sort(l)
		if !slices.Equal(l, before) {
			t.Fatalf("Sort changed its list: %v", l)
		}
		for i := range got {
			got[i] = api.Elem{P: 77, Id: 77}
		}
		if !slices.Equal(l, before) {
			t.Fatalf("Sort shares memory with its list: %v", l)
		}
	}
}

// P1.2: P, a colon, Id.
func TestText(t *testing.T) {
	rows := []struct {
		e    api.Elem
		want string
	}{
		{api.Elem{}, "0:0"},
		{api.Elem{P: -5, Id: 3}, "-5:3"},
		{api.Elem{P: 3, Id: -5}, "3:-5"},
		{api.Elem{P: 10, Id: 100}, "10:100"},
		{api.Elem{P: math.MinInt64, Id: math.MaxInt64}, "-9223372036854775808:9223372036854775807"},
		{api.Elem{P: math.MaxInt64, Id: math.MinInt64}, "9223372036854775807:-9223372036854775808"},
	}
	for _, r := range rows {
		if got := Text(r.e); got != r.want {
			t.Errorf("Text(%v) = %q, want %q", r.e, got, r.want)
		}
		if got, err := Parse(r.want); err != api.OK || got != r.e {
			t.Errorf("Parse(%q) = %v, %v", r.want, got, err)
		}
	}
}

// P1.2: what is no element's text is ErrForm, with a zero element.
func TestParseRefuses(t *testing.T) {
	rows := []string{
		"", ":", "5", "-5", "5:", ":5", "-:1", "1:-", "-:-",
		"05:1", "1:05", "00:1", "1:00", "-05:1", "1:-05", "-0:1", "1:-0",
		"+5:1", "1:+5", "--5:1", "1:--5", "5-:1",
		" 1:2", "1 :2", "1: 2", "1:2 ", "1:2\n", "\t1:2", "1:2\x00",
		"1:2:3", "1::2", ":1:2", "1:2:", "1;2", "1,2", "1.0:2", "1e3:2", "0x1:2", "1_000:2", "1:1_0", "a:b", "1:b",
		"９:1", "1:٣", "1：2", "−1:2", "1:2\xff", "\xff",
		"9223372036854775808:0", "0:9223372036854775808", "-9223372036854775809:0", "0:-9223372036854775809",
		"18446744073709551616:0", "0:18446744073709551617", "99999999999999999999:1", "1:-99999999999999999999",
		strings.Repeat("9", 5000) + ":1", "1:" + strings.Repeat("0", 5000), strings.Repeat(":", 5000),
	}
	for _, s := range rows {
		if got, err := Parse(s); err != api.ErrForm || got != (api.Elem{}) {
			t.Errorf("Parse(%.50q) = %v, %v", s, got, err)
		}
	}
}

// pattern is that of an element's text, but for how great its numbers may be.
var pattern = regexp.MustCompile(`\A(0|-?[1-9][0-9]*):(0|-?[1-9][0-9]*)\z`)

// isText tells, without the package's own calls, whether s is an element's text.
func isText(s string) bool {
	if !pattern.MatchString(s) {
		return false
	}
	for _, n := range strings.Split(s, ":") {
		if v, ok := new(big.Int).SetString(n, 10); !ok || !v.IsInt64() {
			return false
		}
	}
	return true
}

// P1.2, P1.3: of all short texts over these letters just those that are an element's are parsed, and told again as they were.
func TestParseOfAllShortTexts(t *testing.T) {
	const letters = "-+:019 _"
	texts := []string{""}
	for start, length := 0, 0; length < 5; length++ {
		end := len(texts)
		for _, s := range texts[start:end] {
			for _, c := range letters {
				texts = append(texts, s+string(c))
			}
		}
		start = end
	}
	wanted, again := 0, 0
	for _, s := range texts {
		is := isText(s)
		e, err := Parse(s)
		if is != (err == api.OK) || !is && (err != api.ErrForm || e != (api.Elem{})) {
			t.Fatalf("Parse(%q) = %v, %v; is a text: %v", s, e, err, is)
		}
		if is {
			wanted++
		}
		if err == api.OK && Text(e) == s {
			again++
		}
	}
	if wanted == 0 || again != wanted {
		t.Errorf("%d texts, %d of them told again", wanted, again)
	}
}

// P1.3: what is a text is parsed; unlike elements have unlike texts.
func TestTextsAreParsed(t *testing.T) {
	seen := map[string]api.Elem{}
	for _, e := range edgeElems() {
		s := Text(e)
		if other, is := seen[s]; is {
			t.Fatalf("%v and %v have the text %q", e, other, s)
		}
		seen[s] = e
		if got, err := Parse(s); err != api.OK || got != e {
			t.Fatalf("Parse(%q) = %v, %v", s, got, err)
		}
		if !isText(s) {
			t.Fatalf("%q is no text of numbers", s)
		}
	}
}

// P1.3: what is sorted once more is the same.
func TestSortedOnceMore(t *testing.T) {
	for _, l := range [][]api.Elem{nil, mixed(), edgeElems(), {{P: 2, Id: 2}, {P: 2, Id: 1}, {P: 2, Id: 2}}} {
		once := Sort(l)
		if twice := Sort(once); !slices.Equal(once, twice) {
			t.Errorf("sorted once %v, twice %v", once, twice)
		}
		if least, is := Least(l...); is && once[0] != least {
			t.Errorf("the first one in order is %v, the least one %v", once[0], least)
		}
	}
}
