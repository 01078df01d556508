package opcode_test

import (
	"math"
	"slices"
	"testing"

	"slagheap/api"
	"slagheap/opcode"
)

// counts is how many numbers each operation is told, by its code, from 1 on; written out.
func counts() []int {
	return []int{1, 3, 2, 1, 1, 1, 1, 2, 2, 0, 3, 2, 3, 1, 1, 2, 2, 2, 1, 3, 1, 2}
}

// uncodes are codes that there aren't.
func uncodes() []int64 {
	return []int64{0, -1, 23, 24, -2, -22, 64, 100, 255, 256, 257, -255, 1<<16 + 1, 1<<32 + 1, 1<<32 + 22, -1<<32 + 1, math.MinInt64, math.MinInt64 + 1, math.MaxInt64 - 1, math.MaxInt64}
}

// ends are numbers at both ends of what 64 bits hold, and between.
func ends() []int64 {
	return []int64{math.MinInt64, math.MinInt64 + 1, -1 << 32, -1, 0, 1, 1 << 32, 1<<32 + 1, math.MaxInt64 - 1, math.MaxInt64}
}

// op is an operation.
func op(code int64, args ...int64) opcode.Op { return opcode.Op{Code: code, Args: args} }

// script is a script.
func script(room int, ops ...opcode.Op) opcode.Script { return opcode.Script{Room: room, Ops: ops} }

// sameOp tells whether two operations are one; Args that are nil, and empty ones, are.
func sameOp(a, b opcode.Op) bool { return a.Code == b.Code && slices.Equal(a.Args, b.Args) }

// same tells whether two scripts are one.
func same(a, b opcode.Script) bool {
	return a.Room == b.Room && slices.EqualFunc(a.Ops, b.Ops, sameOp)
}

// copied is a script in new memory.
func copied(s opcode.Script) opcode.Script {
	c := opcode.Script{Room: s.Room}
	for _, o := range s.Ops {
		c.Ops = append(c.Ops, op(o.Code, slices.Clone(o.Args)...))
	}
	return c
}

// reader reads numbers one by one, and says of each one what it is.
type reader struct {
	got opcode.Script
	// wants is what the next number is.
	wants func(x int64) api.Errno
	// left is how many numbers of the last operation are still to come.
	left int
	// done: what was read so far is a script.
	done bool
}

func (r *reader) room(x int64) api.Errno {
	if x < 0 || x > 64 {
		return 1
	}
	r.got.Room, r.wants, r.done = int(x), r.code, true
	return 0
}

func (r *reader) code(x int64) api.Errno {
	if len(r.got.Ops) >= 256 {
		return 12
	}
	r.got.Ops = append(r.got.Ops, op(x))
	r.wants, r.done = r.count, false
	return 0
}

func (r *reader) count(x int64) api.Errno {
	if x < 0 || x > 4 {
		return 10
	}
	r.left = int(x)
	r.next()
	return 0
}

func (r *reader) arg(x int64) api.Errno {
	last := &r.got.Ops[len(r.got.Ops)-1]
	last.Args = append(last.Args, x)
	r.left--
	r.next()
	return 0
}

func (r *reader) next() {
	if r.left > 0 {
		r.wants = r.arg
		return
	}
	r.wants, r.done = r.code, true
}

// read is the script that numbers are, and what is wrong with them, by the reader.
func read(l []int64) (opcode.Script, api.Errno) {
	r := &reader{}
	r.wants = r.room
	for _, x := range l {
		if errno := r.wants(x); errno != 0 {
			return opcode.Script{}, errno
		}
	}
	if !r.done {
		return opcode.Script{}, 11
	}
	return r.got, 0
}

// written are a script's numbers, put down place by place.
func written(s opcode.Script) []int64 {
	n := 1
	for _, o := range s.Ops {
		n += 2 + len(o.Args)
	}
	l := make([]int64, n)
	l[0] = int64(s.Room)
	at := 1
	for _, o := range s.Ops {
		l[at], l[at+1] = o.Code, int64(len(o.Args))
		for i, x := range o.Args {
			l[at+2+i] = x
		}
		at += 2 + len(o.Args)
	}
	return l
}

// parses fails, unless numbers are that script, or there is that error, and the numbers stay.
func parses(t *testing.T, l []int64, want opcode.Script, wantErrno api.Errno) {
	t.Helper()
	was := slices.Clone(l)
	got, errno := opcode.Parse(l)
	if errno != wantErrno || !same(got, want) {
		t.Fatalf("Parse(%v) = %v, %d, want %v, %d", short(l), got, errno, want, wantErrno)
	}
	if errno != api.OK && (got.Room != 0 || len(got.Ops) != 0) {
		t.Fatalf("Parse(%v) = %v beside %d", short(l), got, errno)
	}
	if !slices.Equal(l, was) {
		t.Fatalf("Parse(%v) made them %v", short(was), short(l))
	}
}

// short are numbers, for whoever reads that it failed.
func short(l []int64) []int64 { return l[:min(len(l), 40)] }

// refused fails, unless Parse refuses numbers by that error.
func refused(t *testing.T, want api.Errno, l ...int64) {
	t.Helper()
	parses(t, l, opcode.Script{}, want)
	if _, errno := read(l); errno != want {
		t.Fatalf("the reader's error for %v is %d, want %d", short(l), errno, want)
	}
}

// builds fails, unless a script's numbers are these, and the script stays.
func builds(t *testing.T, s opcode.Script, want ...int64) {
	t.Helper()
	was := copied(s)
	if got := opcode.Build(s); !slices.Equal(got, want) {
		t.Fatalf("Build(%v) = %v, want %v", s, short(got), short(want))
	}
	if !same(s, was) {
		t.Fatalf("Build(%v) made it %v", was, s)
	}
}

// there fails, unless numbers are parsed as the reader reads them, and built of their script as they were.
func there(t *testing.T, l []int64) {
	t.Helper()
	want, errno := read(l)
	parses(t, l, want, errno)
	if errno == api.OK {
		s, _ := opcode.Parse(l)
		builds(t, s, l...)
	}
}

// back fails, unless a script is built as the tests write it, and parsed of its numbers as it was.
func back(t *testing.T, s opcode.Script) {
	t.Helper()
	l := written(s)
	builds(t, s, l...)
	parses(t, opcode.Build(s), s, api.OK)
	there(t, l)
}

// many are so many operations, of codes of all sorts, and of 0 to 4 numbers.
func many(n int) []opcode.Op {
	var ops []opcode.Op
	for i := range n {
		o := op(int64(i*7%31 - 3))
		for j := range (i * 3) % 5 {
			o.Args = append(o.Args, int64(i*j-9))
		}
		ops = append(ops, o)
	}
	return ops
}

// P18.2: 5, 1, 1, 3: room for 5; an empty heap of kind 3.
func TestExample(t *testing.T) {
	s, errno := opcode.Parse([]int64{5, 1, 1, 3})
	if errno != api.OK || s.Room != 5 || len(s.Ops) != 1 {
		t.Fatalf("Parse = %v, %v", s, errno)
	}
	if o := s.Ops[0]; o.Code != opcode.Empty || !slices.Equal(o.Args, []int64{3}) || opcode.Right(o) != api.OK {
		t.Errorf("the operation is %v, %v", o, opcode.Right(o))
	}
	builds(t, s, 5, 1, 1, 3)
	back(t, script(5, op(opcode.Empty, 3)))
}

// P18.1: each code has just its number.
func TestCodes(t *testing.T) {
	for i, code := range []int64{
		opcode.Empty, opcode.Insert, opcode.Meld, opcode.Pop, opcode.Min, opcode.Size, opcode.Drain, opcode.Top, opcode.Convert,
		opcode.QEmpty, opcode.QInsert, opcode.QDelete, opcode.QAdjust, opcode.QPop, opcode.QMin, opcode.QLookup, opcode.QAtMost, opcode.QTop, opcode.QSize, opcode.QKeys,
		opcode.ToQueue, opcode.FromQueue,
	} {
		if code != int64(i+1) {
			t.Errorf("the code at %d is %d, want %d", i, code, i+1)
		}
	}
	// Numbers of no type of their own: of whatever integers they stand among.
	var small int8 = opcode.FromQueue
	var plain int = opcode.Meld
	if small != 22 || plain != 3 {
		t.Errorf("FromQueue is %d, Meld is %d", small, plain)
	}
}

// P18.1: how many numbers each of the 22 operations is told.
func TestArgs(t *testing.T) {
	for i, want := range counts() {
		if n, is := opcode.Args(int64(i + 1)); n != want || !is {
			t.Errorf("Args(%d) = %d, %v, want %d, true", i+1, n, is, want)
		}
	}
	byName := map[int64]int{
		opcode.QEmpty: 0,
		opcode.Empty:  1, opcode.Pop: 1, opcode.Min: 1, opcode.Size: 1, opcode.Drain: 1, opcode.QPop: 1, opcode.QMin: 1, opcode.QSize: 1, opcode.ToQueue: 1,
		opcode.Meld: 2, opcode.Top: 2, opcode.Convert: 2, opcode.QDelete: 2, opcode.QLookup: 2, opcode.QAtMost: 2, opcode.QTop: 2, opcode.FromQueue: 2,
		opcode.Insert: 3, opcode.QInsert: 3, opcode.QAdjust: 3, opcode.QKeys: 3,
	}
	if len(byName) != 22 {
		t.Fatalf("%d codes have a name", len(byName))
	}
	for code, want := range byName {
		if n, is := opcode.Args(code); n != want || !is {
			t.Errorf("Args(%d) = %d, %v, want %d, true", code, n, is, want)
		}
	}
}

// P18.1: of all other codes 0, false.
func TestArgsOfNone(t *testing.T) {
	for _, code := range uncodes() {
		if n, is := opcode.Args(code); n != 0 || is {
			t.Errorf("Args(%d) = %d, %v", code, n, is)
		}
	}
	for code := int64(-300); code <= 300; code++ {
		if n, is := opcode.Args(code); is != (code >= 1 && code <= 22) || !is && n != 0 {
			t.Errorf("Args(%d) = %d, %v", code, n, is)
		}
	}
}

// P18.1: an operation is right with just as many numbers as it is told, whatever they are; else it is ErrForm.
func TestRight(t *testing.T) {
	for i, n := range counts() {
		code := int64(i + 1)
		for has := range 300 {
			want := api.Errno(10)
			if has == n {
				want = 0
			}
			for _, x := range ends() {
				o := op(code, slices.Repeat([]int64{x}, has)...)
				if got := opcode.Right(o); got != want {
					t.Fatalf("Right of %d with %d numbers = %d, want %d", code, has, got, want)
				}
				if !slices.Equal(o.Args, slices.Repeat([]int64{x}, has)) || o.Code != code {
					t.Fatalf("Right made it %v", o)
				}
			}
		}
	}
}

// P18.1: a code that there isn't is ErrOp, whatever it is told.
func TestRightOfNone(t *testing.T) {
	for _, code := range uncodes() {
		for has := range 6 {
			if got := opcode.Right(op(code, ends()[:has]...)); got != 20 {
				t.Errorf("Right of %d with %d numbers = %d, want 20", code, has, got)
			}
		}
		if got := opcode.Right(opcode.Op{Code: code}); got != 20 {
			t.Errorf("Right of %d = %d, want 20", code, got)
		}
	}
}

// P18.1: no numbers at all are the same, nil or empty.
func TestRightOfNil(t *testing.T) {
	for code := int64(-1); code <= 24; code++ {
		none, empty := opcode.Right(opcode.Op{Code: code}), opcode.Right(opcode.Op{Code: code, Args: []int64{}})
		room := opcode.Right(opcode.Op{Code: code, Args: make([]int64, 0, 4)})
		if none != empty || none != room {
			t.Errorf("Right of %d = %d, %d, %d", code, none, empty, room)
		}
		if code >= 1 && code <= 22 && (none == api.OK) != (code == opcode.QEmpty) {
			t.Errorf("Right of %d without numbers = %d", code, none)
		}
	}
}

// P18.2: no numbers are ErrShort, nil or empty.
func TestParseNone(t *testing.T) {
	refused(t, 11)
	parses(t, nil, opcode.Script{}, 11)
	parses(t, []int64{}, opcode.Script{}, 11)
	parses(t, make([]int64, 0, 9), opcode.Script{}, 11)
}

// P18.2: a room is 0 to 64; of a room alone the script has no operations.
func TestParseRoom(t *testing.T) {
	for room := range int64(65) {
		parses(t, []int64{room}, script(int(room)), api.OK)
		parses(t, []int64{room, 4, 1, 0}, script(int(room), op(4, 0)), api.OK)
		there(t, []int64{room, 10, 0, 1, 1, -1})
	}
}

// P18.2: all other rooms are ErrArg, whatever is behind them.
func TestParseNoRoom(t *testing.T) {
	behind := [][]int64{nil, {1}, {1, 1, 3}, {1, 1}, {1, 5}, {1, -1}, {99, 0}, {10, 0}, {10, 0, 2}, slices.Repeat([]int64{10, 0}, 257)}
	for _, room := range []int64{-1, 65, 66, -2, -64, 128, 255, 256, 1 << 32, 1<<32 + 5, -1 << 32, math.MinInt64, math.MinInt64 + 1, math.MinInt64 + 5, math.MaxInt64 - 1, math.MaxInt64} {
		for _, l := range behind {
			refused(t, 1, append([]int64{room}, l...)...)
		}
	}
}

// P18.2: operations, one by one; a code is read whatever it is, with as many numbers as are told ahead of them.
func TestParseOps(t *testing.T) {
	parses(t, []int64{0, 10, 0}, script(0, op(10)), api.OK)
	parses(t, []int64{64, 2, 3, 0, -7, 9}, script(64, op(2, 0, -7, 9)), api.OK)
	parses(t, []int64{3, 1, 1, 6, 2, 3, 0, 5, 6, 10, 0, 3, 2, 1, 1}, script(3, op(1, 6), op(2, 0, 5, 6), op(10), op(3, 1, 1)), api.OK)
	// Numbers that might be codes and counts are none where numbers are told.
	parses(t, []int64{1, 1, 4, 1, 4, 1, 4, 2, 0}, script(1, op(1, 1, 4, 1, 4), op(2)), api.OK)
	parses(t, []int64{1, 1, 0, 1, 0, 1, 0}, script(1, op(1), op(1), op(1)), api.OK)
	for _, n := range []int{1, 2, 3, 100, 255, 256} {
		parses(t, written(script(7, many(n)...)), script(7, many(n)...), api.OK)
	}
}

// P18.2: each code, and each count from 0 to 4, whether the operation is told so many or not, and whatever the numbers are.
func TestParseAnyCode(t *testing.T) {
	codes := append(uncodes(), ends()...)
	for code := int64(1); code <= 22; code++ {
		codes = append(codes, code)
	}
	for _, code := range codes {
		for n := range 5 {
			for _, x := range ends() {
				o := op(code, slices.Repeat([]int64{x}, n)...)
				parses(t, written(script(2, o)), script(2, o), api.OK)
				parses(t, written(script(2, op(6, 0), o, op(10), o)), script(2, op(6, 0), o, op(10), o), api.OK)
			}
		}
	}
}

// P18.2: all other counts are ErrForm, whether there are so many numbers or not.
func TestParseNoCount(t *testing.T) {
	for _, n := range []int64{-1, 5, -2, 6, 255, 256, 260, 1 << 32, 1<<32 + 2, -1 << 32, math.MinInt64, math.MinInt64 + 1, math.MinInt64 + 4, math.MaxInt64 - 1, math.MaxInt64} {
		for _, code := range append(uncodes(), 1, 2, 10, 22) {
			refused(t, 10, 5, code, n)
			refused(t, 10, 5, code, n, 1)
			refused(t, 10, 5, code, n, 1, 2, 3, 4, 5, 6)
			refused(t, 10, append([]int64{5, 1, 1, 3, code, n}, make([]int64, 300)...)...)
			refused(t, 10, 5, 1, 1, 3, 10, 0, code, n)
		}
	}
}

// P18.2: a code with nothing behind it is ErrShort, whatever it is.
func TestParseCodeAlone(t *testing.T) {
	for _, code := range append(uncodes(), 1, 2, 10, 22) {
		refused(t, 11, 5, code)
		refused(t, 11, 5, 1, 1, 3, code)
		refused(t, 11, 5, 10, 0, code)
		refused(t, 11, append(written(script(5, many(255)...)), code)...)
	}
}

// P18.2: fewer numbers than the count are ErrShort, by one and by all.
func TestParseFewer(t *testing.T) {
	for n := 1; n <= 4; n++ {
		for has := range n {
			for _, code := range append(uncodes(), 1, 2, 10, 22) {
				l := append([]int64{5, code, int64(n)}, ends()[:has]...)
				refused(t, 11, l...)
				refused(t, 11, append(written(script(5, many(255)...)), l[1:]...)...)
			}
		}
	}
}

// P18.2: 256 operations are read; with a number more there are too many, whatever it is.
func TestParseLong(t *testing.T) {
	for _, full := range [][]opcode.Op{many(256), slices.Repeat([]opcode.Op{op(10)}, 256), slices.Repeat([]opcode.Op{op(99, 1, 2, 3, 4)}, 256)} {
		l := written(script(64, full...))
		parses(t, l, script(64, full...), api.OK)
		for _, x := range append(ends(), 1, 10, 22, 23) {
			refused(t, 12, append(slices.Clip(l), x)...)
			refused(t, 12, append(slices.Clip(l), x, 0)...)
			refused(t, 12, append(slices.Clip(l), x, 5)...)
			refused(t, 12, append(slices.Clip(l), x, 2, 1)...)
		}
		refused(t, 12, append(slices.Clip(l), l[1:]...)...)
	}
}

// P18.2: of several errors the one that comes first in the numbers is told.
func TestParseFirst(t *testing.T) {
	refused(t, 1, -1, 1)
	refused(t, 10, 5, 1, 5)
	refused(t, 10, 5, 1, 5, 10)
	refused(t, 10, 5, 10, 0, 1, -1, 1)
	refused(t, 11, 5, 10, 0, 1, 2, 7)
	// A wrong count ahead of too many operations, and too few numbers that swallow all of them.
	refused(t, 10, append([]int64{5, 1, 7}, slices.Repeat([]int64{10, 0}, 256)...)...)
	refused(t, 12, append([]int64{5, 1, 0}, slices.Repeat([]int64{10, 0}, 256)...)...)
}

// spoil changes all that a script has, and what is behind that in its memory.
func spoil(s opcode.Script) {
	for i := range s.Ops[:cap(s.Ops)] {
		o := &s.Ops[:cap(s.Ops)][i]
		for j := range o.Args[:cap(o.Args)] {
			o.Args[:cap(o.Args)][j] = -77
		}
		o.Code, o.Args = -88, []int64{-99}
	}
}

// P18.2: what is parsed is in new memory: it changes no numbers, and no numbers change it.
func TestParseNewMemory(t *testing.T) {
	want := script(9, many(60)...)
	l := written(want)
	was := slices.Clone(l)
	first, _ := opcode.Parse(l)
	second, _ := opcode.Parse(l)
	spoil(first)
	if !slices.Equal(l, was) {
		t.Fatalf("a script that is changed made the numbers %v", short(l))
	}
	if !same(second, want) {
		t.Fatalf("a script that is changed made another one %v", second)
	}
	parses(t, l, want, api.OK)
	for i := range l {
		l[i] = -66
	}
	if !same(second, want) {
		t.Fatalf("numbers that are changed made the script %v", second)
	}
}

// P18.2: numbers that are added to those of one operation change those of no other one, nor what was handed in.
func TestParseArgsApart(t *testing.T) {
	want := script(9, op(2, 1, 2, 3), op(10), op(3, 4, 5), op(10), op(9, 6, 7, 8, 9), op(1, 3))
	l := written(want)
	was := slices.Clone(l)
	for i := range want.Ops {
		s, _ := opcode.Parse(l)
		added := append(s.Ops[i].Args, -1, -2, -3, -4, -5)
		added[0] = -6
		for j, o := range s.Ops {
			if j != i && !sameOp(o, want.Ops[j]) {
				t.Fatalf("numbers added to %v made another one %v", want.Ops[i], o)
			}
		}
		if !slices.Equal(l, was) {
			t.Fatalf("numbers added to %v made the numbers %v", want.Ops[i], l)
		}
	}
}

// P18.2: operations that are added to a script of two change the other one nowhere.
func TestParseOpsApart(t *testing.T) {
	l := written(script(1, many(5)...))
	first, _ := opcode.Parse(l)
	second, _ := opcode.Parse(l)
	longer := append(first.Ops, op(1, 1))
	others := append(second.Ops, op(2, 2))
	if !sameOp(longer[5], op(1, 1)) || !sameOp(others[5], op(2, 2)) {
		t.Errorf("added operations are %v and %v", longer[5], others[5])
	}
}

// P18.3: the room, and of each operation its code, how many numbers it has, and these.
func TestBuild(t *testing.T) {
	for room := range 65 {
		builds(t, script(room), int64(room))
	}
	builds(t, script(5, op(1, 3)), 5, 1, 1, 3)
	builds(t, script(5, op(10)), 5, 10, 0)
	builds(t, script(5, opcode.Op{Code: 10, Args: []int64{}}), 5, 10, 0)
	builds(t, opcode.Script{Room: 5, Ops: []opcode.Op{}}, 5)
	builds(t, opcode.Script{}, 0)
	builds(t, script(5, opcode.Op{}), 5, 0, 0)
	builds(t, script(64, op(1, 6), op(2, 0, -5, 7), op(10), op(3, 1, 1)), 64, 1, 1, 6, 2, 3, 0, -5, 7, 10, 0, 3, 2, 1, 1)
}

// P18.3: of what may be no script, too: whatever its room, its codes, and how many numbers and operations it has.
func TestBuildNone(t *testing.T) {
	for _, room := range []int{-1, 65, 1 << 40, math.MinInt, math.MinInt + 1, math.MaxInt} {
		builds(t, script(room), int64(room))
		builds(t, script(room, op(1, 3)), int64(room), 1, 1, 3)
		parses(t, opcode.Build(script(room)), opcode.Script{}, 1)
	}
	for _, code := range uncodes() {
		builds(t, script(1, op(code, 4), op(code)), 1, code, 1, 4, code, 0)
	}
	builds(t, script(1, op(2, 1, 2, 3, 4, 5)), 1, 2, 5, 1, 2, 3, 4, 5)
	for _, n := range []int{5, 6, 100, 1000} {
		s := script(1, op(2, make([]int64, n)...), op(10))
		builds(t, s, written(s)...)
		parses(t, opcode.Build(s), opcode.Script{}, 10)
	}
	for _, n := range []int{257, 300, 2000} {
		s := script(1, many(n)...)
		builds(t, s, written(s)...)
		parses(t, opcode.Build(s), opcode.Script{}, 12)
	}
}

// P18.3: what is built is in new memory: it changes no script, and no script changes it.
func TestBuildNewMemory(t *testing.T) {
	want := script(9, many(60)...)
	s := copied(want)
	first, second := opcode.Build(s), opcode.Build(s)
	for i := range first[:cap(first)] {
		first[:cap(first)][i] = -66
	}
	if !same(s, want) {
		t.Fatalf("numbers that are changed made the script %v", s)
	}
	if !slices.Equal(second, written(want)) {
		t.Fatalf("numbers that are changed made others %v", short(second))
	}
	spoil(s)
	if !slices.Equal(second, written(want)) {
		t.Fatalf("a script that is changed made the numbers %v", short(second))
	}
}

// P18.4: scripts of each room, of no operation, one, several, and as many as there may be, there and back.
func TestThereAndBack(t *testing.T) {
	for room := range 65 {
		for _, n := range []int{0, 1, 2, 5, room * 4} {
			back(t, script(room, many(n)...))
		}
	}
	for n := range 257 {
		back(t, script(n%65, many(n)...))
	}
	for _, x := range ends() {
		for n := range 5 {
			back(t, script(3, op(x, slices.Repeat([]int64{x}, n)...), op(0)))
		}
	}
}

// cut fails, unless numbers that are a script are ErrShort wherever they are cut, or the script of its first operations.
func cut(t *testing.T, s opcode.Script) {
	t.Helper()
	l := written(s)
	// whole is how many operations are whole where so many numbers are left.
	whole := map[int]int{1: 0}
	for i := range s.Ops {
		whole[len(written(script(s.Room, s.Ops[:i+1]...)))] = i + 1
	}
	for at := range l {
		n, is := whole[at]
		if !is {
			refused(t, 11, l[:at]...)
			continue
		}
		parses(t, l[:at], script(s.Room, s.Ops[:n]...), api.OK)
	}
}

// P18.4: a script that is cut anywhere.
func TestCut(t *testing.T) {
	for _, n := range []int{0, 1, 2, 3, 30, 256} {
		cut(t, script(n%65, many(n)...))
	}
	cut(t, script(64, slices.Repeat([]opcode.Op{op(1, 2, 3, 4, 5)}, 40)...))
}

// random are numbers that look like chance, and are always the same.
type random int64

func (r *random) below(n int64) int64 {
	*r = *r*6364136223846793005 + 1442695040888963407
	return int64(uint64(*r)>>33) % n
}

// number is one that is likely to mean something.
func (r *random) number() int64 {
	switch r.below(8) {
	case 0:
		return ends()[r.below(int64(len(ends())))]
	case 1:
		return r.below(300) - 20
	}
	return r.below(7) - 1
}

// anOp is an operation of 0 to 4 numbers.
func (r *random) anOp() opcode.Op {
	o := op(r.number())
	for range r.below(5) {
		o.Args = append(o.Args, r.number())
	}
	return o
}

// P18.2, P18.4: rows of whatever numbers, short and long, as the reader reads them.
func TestRows(t *testing.T) {
	r := random(18)
	seen := map[api.Errno]int{}
	for range 40000 {
		l := []int64{r.below(65)}
		for range r.below(12) {
			l = append(l, r.number())
		}
		if r.below(20) == 0 {
			l[0] = r.number()
		}
		there(t, l)
		_, errno := read(l)
		seen[errno]++
	}
	for _, errno := range []api.Errno{0, 1, 10, 11} {
		if seen[errno] < 200 {
			t.Errorf("error %d was there %d times", errno, seen[errno])
		}
	}
	for range 300 {
		l := []int64{r.below(65)}
		for range 200 + r.below(600) {
			l = append(l, r.below(3))
		}
		there(t, l)
	}
}

// changed are the numbers of a script with one of them changed, left out, or put in.
func (r *random) changed(l []int64) []int64 {
	l = slices.Clone(l)
	at := int(r.below(int64(len(l))))
	switch r.below(3) {
	case 0:
		l[at] = r.number()
	case 1:
		l = slices.Delete(l, at, at+1)
	default:
		l = slices.Insert(l, at, r.number())
	}
	return l
}

// P18.2, P18.4: scripts of all lengths, and such with one number changed, left out or put in, as the reader reads them.
func TestChanged(t *testing.T) {
	r := random(4)
	seen := map[api.Errno]int{}
	for i := range 4000 {
		s := opcode.Script{Room: int(r.below(65))}
		n := r.below(9)
		if i%20 == 0 {
			n = 250 + r.below(7)
		}
		if i%40 == 0 {
			n = 256
		}
		for range n {
			s.Ops = append(s.Ops, r.anOp())
		}
		back(t, s)
		for range 5 {
			l := r.changed(written(s))
			there(t, l)
			_, errno := read(l)
			seen[errno]++
		}
	}
	for _, errno := range []api.Errno{0, 1, 10, 11, 12} {
		if seen[errno] < 20 {
			t.Errorf("error %d was there %d times", errno, seen[errno])
		}
	}
}

// P18.1 to P18.3: the same calls have the same answers.
func TestAgain(t *testing.T) {
	l := written(script(12, many(200)...))
	first, errno := opcode.Parse(l)
	for range 5 {
		again, errnoAgain := opcode.Parse(l)
		if !same(first, again) || errno != errnoAgain || !slices.Equal(opcode.Build(again), l) {
			t.Fatalf("Parse again is %v, %d", again, errnoAgain)
		}
	}
}
