// Package elem is the order of elements.
package elem

import (
	"slices"
	"strconv"
	"strings"

	"slagheap/api"
)

// mark stands between a priority and an id in an element's text.
const mark = ":"

// Less tells whether an element stands ahead of another one.
func Less(a, b api.Elem) bool {
	// Numbers are never subtracted: the difference of far ones would wrap round.
	if a.P != b.P {
		return a.P < b.P
	}
	return a.Id < b.Id
}

// Compare tells how two elements stand.
func Compare(a, b api.Elem) int {
	if a == b {
		return 0
	}
	if Less(a, b) {
		return -1
	}
	return 1
}

// Least is the least of elements; false: there is none.
func Least(l ...api.Elem) (api.Elem, bool) {
	if len(l) == 0 {
		return api.Elem{}, false
	}
	least := l[0]
	for _, e := range l[1:] {
		if Less(e, least) {
			least = e
		}
	}
	return least, true
}

// Sort is elements in order.
func Sort(l []api.Elem) []api.Elem {
	sorted := make([]api.Elem, len(l))
	copy(sorted, l)
	slices.SortFunc(sorted, Compare)
	return sorted
}

// Text is an element as a text.
func Text(e api.Elem) string {
	return strconv.FormatInt(e.P, 10) + mark + strconv.FormatInt(e.Id, 10)
}

// Parse is a text's element.
func Parse(s string) (api.Elem, api.Errno) {
	first, second, found := strings.Cut(s, mark)
	if !found {
		return api.Elem{}, api.ErrForm
	}
	p, pOK := number(first)
	id, idOK := number(second)
	if !pOK || !idOK {
		return api.Elem{}, api.ErrForm
	}
	return api.Elem{P: p, Id: id}, api.OK
}

// number is the number whose text s is; false: there is none.
func number(s string) (int64, bool) {
	n, err := strconv.ParseInt(s, 10, 64)
	// The library also takes a plus sign, noughts ahead and -0, which no number's text has.
	if err != nil || strconv.FormatInt(n, 10) != s {
		return 0, false
	}
	return n, true
}
