package prio

import (
	"fmt"
	"math"
	"math/bits"
	"reflect"
	"slices"
	"strings"
	"testing"

	"campanile/api"
)

// someFrames holds frames that may be, the edges among them, and such that are alike for long.
func someFrames() []api.Frame {
	var l []api.Frame
	for _, remote := range []bool{false, true} {
		for _, id := range []uint32{0, 1, 2, 3, 4, 5, 0x2AA, 0x555, 0x3FF, 0x400, 0x7FE, 0x7FF} {
			l = append(l, api.Frame{Id: id, Remote: remote})
			for _, low := range []uint32{0, 1, 5, 1 << 17, 0x15555, 0x2AAAA, 1<<18 - 2, 1<<18 - 1} {
				l = append(l, api.Frame{Id: id<<18 | low, Ext: true, Remote: remote})
			}
		}
		for i := range 29 {
			l = append(l, api.Frame{Id: 1 << i, Ext: true, Remote: remote})
			if i < 11 {
				l = append(l, api.Frame{Id: 1 << i, Remote: remote})
			}
		}
	}
	// What stands behind the field tells nothing of who wins.
	for _, ext := range []bool{false, true} {
		for dlc := range 9 {
			l = append(l, api.Frame{Id: 5, Ext: ext, Dlc: dlc, Data: strings.Repeat("\xFF", dlc)})
			l = append(l, api.Frame{Id: 5, Ext: ext, Remote: true, Dlc: dlc})
		}
	}
	return l
}

// wrongFrames holds frames that may not be.
func wrongFrames() []api.Frame {
	return []api.Frame{
		{Id: 1 << 11}, {Id: 1<<11 + 5}, {Id: 1<<29 - 1}, {Id: math.MaxUint32}, {Id: 1 << 11, Remote: true},
		{Id: 1 << 29, Ext: true}, {Id: math.MaxUint32, Ext: true}, {Id: 1 << 29, Ext: true, Remote: true},
		{Id: 5, Dlc: 9, Data: "123456789"}, {Id: 5, Dlc: -1}, {Id: 5, Dlc: 1}, {Id: 5, Data: "a"}, {Id: 5, Dlc: 8, Data: "1234567"},
		{Id: 5, Remote: true, Dlc: 9}, {Id: 5, Remote: true, Dlc: 1, Data: "a"}, {Id: 5, Remote: true, Dlc: math.MinInt},
		{Id: 5, Ext: true, Dlc: math.MaxInt}, {Id: 5, Ext: true, Dlc: 1, Data: "ab"}, {Id: 5, Data: strings.Repeat("a", 5000)},
	}
}

// chance is a row of numbers without a rule.
type chance uint32

func (c *chance) below(n uint32) uint32 {
	*c = *c*1664525 + 1013904223
	return uint32(uint64(*c) * uint64(n) >> 32)
}

// frame is one of few Ids, so that many have fields that are alike for long, or one field.
func (c *chance) frame() api.Frame {
	f := api.Frame{Ext: c.below(2) == 1, Remote: c.below(3) == 0, Dlc: int(c.below(9))}
	f.Id = []uint32{5, 5, c.below(8), c.below(1 << 11)}[c.below(4)]
	if f.Ext {
		f.Id = f.Id<<18 | []uint32{0, 1, c.below(1 << 18), 1<<18 - 1}[c.below(4)]
	}
	if !f.Remote {
		f.Data = strings.Repeat(string(rune('a'+c.below(4))), f.Dlc)
	}
	return f
}

func (c *chance) frames(n int) []api.Frame {
	l := make([]api.Frame, n)
	for i := range l {
		l[i] = c.frame()
	}
	return l
}

// fieldOf is a field, written by the library: another way to it.
func fieldOf(f api.Frame) string {
	r := 0
	if f.Remote {
		r = 1
	}
	if !f.Ext {
		return fmt.Sprintf("%011b%d0", f.Id, r)
	}
	return fmt.Sprintf("%011b11%018b%d", f.Id>>18, f.Id%(1<<18), r)
}

// rank is a field as the upper bits of a number: the least one wins.
func rank(f api.Frame) uint32 {
	var r uint32
	if f.Remote {
		r = 1
	}
	if !f.Ext {
		return f.Id<<21 | r<<20
	}
	return f.Id>>18<<21 | 3<<19 | f.Id<<14>>13 | r
}

// contested is what comes of a contest: all that are not of the least rank lose, where they are first unlike that.
func contested(l []api.Frame) ([]int, []int) {
	least := rank(l[0])
	for _, f := range l {
		least = min(least, rank(f))
	}
	var left, lost []int
	for i, f := range l {
		if rank(f) == least {
			left = append(left, i)
			lost = append(lost, -1)
			continue
		}
		lost = append(lost, bits.LeadingZeros32(rank(f)^least))
	}
	return left, lost
}

// ordered puts frames in order by putting each ahead of the first one that it wins against.
func ordered(l []api.Frame) []api.Frame {
	var out []api.Frame
	for _, f := range l {
		at := 0
		for at < len(out) && rank(out[at]) <= rank(f) {
			at++
		}
		out = slices.Insert(out, at, f)
	}
	return out
}

// isField, isLess, isContest and isOrder hold what a call answers.
func isField(t *testing.T, f api.Frame, want string, e api.Errno) {
	t.Helper()
	if s, got := Field(f); s != want || got != e {
		t.Errorf("Field(%.300s) = %q, %d; want %q, %d", told(f), s, got, want, e)
	}
}

func isLess(t *testing.T, f, g api.Frame, want bool) {
	t.Helper()
	if Less(f, g) != want {
		t.Errorf("Less(%.300s, %.300s) = %t", told(f), told(g), !want)
	}
}

func isContest(t *testing.T, l []api.Frame, left, lost []int, e api.Errno) {
	t.Helper()
	gotLeft, gotLost, got := Contest(l)
	if !slices.Equal(gotLeft, left) || !slices.Equal(gotLost, lost) || got != e {
		t.Errorf("Contest(%.900s) = %v, %v, %d; want %v, %v, %d", told(l...), gotLeft, gotLost, got, left, lost, e)
	}
}

func isOrder(t *testing.T, l, want []api.Frame, e api.Errno) {
	t.Helper()
	if out, got := Order(l); !slices.Equal(out, want) || got != e {
		t.Errorf("Order(%.900s) = %.900s, %d; want %.900s, %d", told(l...), told(out...), got, told(want...), e)
	}
}

// told are frames as a text.
func told(l ...api.Frame) string { return fmt.Sprintf("%#v", l) }

// P5.1

func TestField(t *testing.T) {
	cases := []struct {
		f    api.Frame
		want string
	}{
		{api.Frame{}, "0000000000000"},
		{api.Frame{Id: 3}, "0000000001100"},
		{api.Frame{Id: 3, Remote: true}, "0000000001110"},
		{api.Frame{Id: 1 << 10}, "1000000000000"},
		{api.Frame{Id: 2047, Remote: true, Dlc: 8}, "1111111111110"},
		{api.Frame{Id: 5, Dlc: 8, Data: "\xFF\xFF\xFF\xFF\xFF\xFF\xFF\xFF"}, "0000000010100"},
		{api.Frame{Ext: true}, "00000000000110000000000000000000"},
		{api.Frame{Ext: true, Remote: true}, "00000000000110000000000000000001"},
		{api.Frame{Id: 1, Ext: true}, "00000000000110000000000000000010"},
		{api.Frame{Id: 1 << 17, Ext: true}, "00000000000111000000000000000000"},
		{api.Frame{Id: 1 << 18, Ext: true}, "00000000001110000000000000000000"},
		{api.Frame{Id: 1 << 28, Ext: true}, "10000000000110000000000000000000"},
		{api.Frame{Id: 1<<29 - 1, Ext: true, Remote: true, Dlc: 8}, "11111111111111111111111111111111"},
		{api.Frame{Id: 1<<29 - 1, Ext: true, Dlc: 1, Data: "\xFF"}, "11111111111111111111111111111110"},
	}
	for _, c := range cases {
		isField(t, c.f, c.want, api.OK)
	}
}

func TestFieldOfMany(t *testing.T) {
	var c chance
	for _, f := range append(someFrames(), c.frames(3000)...) {
		isField(t, f, fieldOf(f), api.OK)
	}
}

func TestFieldWrong(t *testing.T) {
	for _, f := range wrongFrames() {
		isField(t, f, "", api.ErrArg)
	}
}

// No field is the beginning of another one.
func TestFieldsBeginUnlike(t *testing.T) {
	var c chance
	frames := append(someFrames(), c.frames(300)...)
	for _, f := range frames {
		for _, g := range frames {
			a, _ := Field(f)
			b, _ := Field(g)
			if a != b && strings.HasPrefix(a, b) {
				t.Errorf("the field %q of %#v begins with that of %#v", a, f, g)
			}
		}
	}
}

func TestLess(t *testing.T) {
	// Each one wins against all behind it.
	row := []api.Frame{
		{}, {Remote: true}, {Ext: true}, {Ext: true, Remote: true}, {Id: 1, Ext: true}, {Id: 1<<18 - 1, Ext: true, Remote: true},
		{Id: 1}, {Id: 1, Remote: true}, {Id: 1 << 18, Ext: true}, {Id: 1<<18 + 1, Ext: true},
		{Id: 2}, {Id: 3}, {Id: 1023, Remote: true}, {Id: 1024}, {Id: 1024, Remote: true}, {Id: 1024 << 18, Ext: true},
		{Id: 2047}, {Id: 2047, Remote: true}, {Id: 2047 << 18, Ext: true}, {Id: 1<<29 - 2, Ext: true, Remote: true},
		{Id: 1<<29 - 1, Ext: true}, {Id: 1<<29 - 1, Ext: true, Remote: true},
	}
	for i, f := range row {
		for j, g := range row {
			isLess(t, f, g, i < j)
		}
	}
}

func TestLessOfMany(t *testing.T) {
	var c chance
	frames := append(someFrames(), c.frames(200)...)
	for _, f := range frames {
		for _, g := range frames {
			isLess(t, f, g, rank(f) < rank(g))
		}
	}
}

func TestLessOfOneField(t *testing.T) {
	l := []api.Frame{{Id: 5}, {Id: 5, Dlc: 1, Data: "\x00"}, {Id: 5, Dlc: 1, Data: "\xFF"}, {Id: 5, Dlc: 8, Data: "abcdefgh"}}
	for _, f := range l {
		for _, g := range l {
			isLess(t, f, g, false)
		}
	}
}

func TestLessWrong(t *testing.T) {
	for _, f := range wrongFrames() {
		for _, g := range []api.Frame{{}, {Id: 5}, {Id: 2047, Remote: true}, {Ext: true}, {Id: 1<<29 - 1, Ext: true, Remote: true}} {
			isLess(t, f, g, false)
			isLess(t, g, f, false)
		}
		for _, g := range wrongFrames() {
			isLess(t, f, g, false)
		}
	}
}

// P5.2

func TestContest(t *testing.T) {
	cases := []struct {
		l    []api.Frame
		left []int
		lost []int
	}{
		{[]api.Frame{{Id: 5}, {Id: 3}, {Id: 4}}, []int{1}, []int{8, -1, 8}},
		{[]api.Frame{{Id: 1}, {Id: 1 << 18, Ext: true}}, []int{0}, []int{-1, 11}},
		{[]api.Frame{{Id: 1}}, []int{0}, []int{-1}},
		{[]api.Frame{{Id: 1<<29 - 1, Ext: true, Remote: true}}, []int{0}, []int{-1}},
		{[]api.Frame{{Id: 5}, {Id: 5}}, []int{0, 1}, []int{-1, -1}},
		{[]api.Frame{{Id: 5}, {Id: 6}, {Id: 5, Dlc: 1, Data: "a"}, {Id: 4, Ext: true}, {Ext: true}}, []int{4}, []int{8, 8, 8, 28, -1}},
		{[]api.Frame{{Id: 0}, {Id: 1024}}, []int{0}, []int{-1, 0}},
		{[]api.Frame{{Id: 1024}, {Id: 0}}, []int{1}, []int{0, -1}},
		{[]api.Frame{{Id: 7}, {Id: 6}, {Id: 7}, {Id: 6}}, []int{1, 3}, []int{10, -1, 10, -1}},
		{[]api.Frame{{Id: 5, Remote: true}, {Id: 5}}, []int{1}, []int{11, -1}},
		// At R both have `1`, and the bit behind it tells.
		{[]api.Frame{{Id: 5, Remote: true}, {Id: 5 << 18, Ext: true}}, []int{0}, []int{-1, 12}},
		{[]api.Frame{{Id: 5 << 18, Ext: true}, {Id: 5, Remote: true}, {Id: 5, Remote: true, Dlc: 8}}, []int{1, 2}, []int{12, -1, -1}},
		{[]api.Frame{{Id: 1, Ext: true}, {Id: 0, Ext: true}}, []int{1}, []int{30, -1}},
		{[]api.Frame{{Ext: true, Remote: true}, {Ext: true}}, []int{1}, []int{31, -1}},
		// One that lost does not put its `0` on the bus any more.
		{[]api.Frame{{Id: 4}, {Id: 3}}, []int{1}, []int{8, -1}},
		{[]api.Frame{{Id: 0x400}, {Id: 0x3FF}, {Id: 0x3FE}}, []int{2}, []int{0, 10, -1}},
	}
	for _, c := range cases {
		isContest(t, c.l, c.left, c.lost, api.OK)
	}
}

func TestContestOfMany(t *testing.T) {
	var c chance
	lists := [][]api.Frame{someFrames(), c.frames(2000)}
	for _, f := range someFrames() {
		for _, g := range someFrames() {
			lists = append(lists, []api.Frame{f, g})
		}
	}
	for range 3000 {
		lists = append(lists, c.frames(1+int(c.below(9))))
	}
	for _, l := range lists {
		left, lost := contested(l)
		isContest(t, l, left, lost, api.OK)
	}
}

func TestOrder(t *testing.T) {
	cases := []struct{ l, want []api.Frame }{
		{[]api.Frame{{Id: 2}, {Id: 1}}, []api.Frame{{Id: 1}, {Id: 2}}},
		{[]api.Frame{{Id: 1}}, []api.Frame{{Id: 1}}},
		{[]api.Frame{{Id: 5}, {Id: 3}, {Id: 4}}, []api.Frame{{Id: 3}, {Id: 4}, {Id: 5}}},
		{
			[]api.Frame{{Id: 5 << 18, Ext: true}, {Id: 5, Remote: true}, {Id: 5}, {Id: 5, Ext: true}},
			[]api.Frame{{Id: 5, Ext: true}, {Id: 5}, {Id: 5, Remote: true}, {Id: 5 << 18, Ext: true}},
		},
		// Those of one field stay as they stood.
		{
			[]api.Frame{{Id: 5, Dlc: 1, Data: "b"}, {Id: 5}, {Id: 3, Dlc: 1, Data: "z"}, {Id: 5, Dlc: 1, Data: "a"}, {Id: 3, Dlc: 1, Data: "y"}},
			[]api.Frame{{Id: 3, Dlc: 1, Data: "z"}, {Id: 3, Dlc: 1, Data: "y"}, {Id: 5, Dlc: 1, Data: "b"}, {Id: 5}, {Id: 5, Dlc: 1, Data: "a"}},
		},
		{nil, nil},
		{[]api.Frame{}, nil},
	}
	for _, c := range cases {
		isOrder(t, c.l, c.want, api.OK)
	}
}

func TestOrderOfMany(t *testing.T) {
	var c chance
	lists := [][]api.Frame{someFrames(), c.frames(2000)}
	for range 2000 {
		lists = append(lists, c.frames(int(c.below(40))))
	}
	for _, l := range lists {
		isOrder(t, l, ordered(l), api.OK)
	}
}

func TestContestAndOrderWrong(t *testing.T) {
	isContest(t, nil, nil, nil, api.ErrArg)
	isContest(t, []api.Frame{}, nil, nil, api.ErrArg)
	row := []api.Frame{{Id: 5}, {Id: 3}, {Id: 1 << 18, Ext: true}}
	for _, f := range wrongFrames() {
		isContest(t, []api.Frame{f}, nil, nil, api.ErrArg)
		isContest(t, []api.Frame{f, f}, nil, nil, api.ErrArg)
		isOrder(t, []api.Frame{f}, nil, api.ErrArg)
		for at := range len(row) + 1 {
			l := slices.Insert(slices.Clone(row), at, f)
			isContest(t, l, nil, nil, api.ErrArg)
			isOrder(t, l, nil, api.ErrArg)
		}
	}
}

// P5.3

func TestThoseAreLeftThatNoOneWinsAgainst(t *testing.T) {
	var c chance
	for range 2000 {
		l := c.frames(1 + int(c.below(9)))
		left, lost, _ := Contest(l)
		if len(left) == 0 {
			t.Errorf("of %#v none is left", l)
			continue
		}
		first, _ := Field(l[left[0]])
		for i, f := range l {
			beaten := slices.ContainsFunc(l, func(g api.Frame) bool { return Less(g, f) })
			if isLeft := slices.Contains(left, i); isLeft == beaten || isLeft != (lost[i] == -1) {
				t.Errorf("Contest(%#v) = %v, %v; another one wins against %d: %t", l, left, lost, i, beaten)
			}
			if own, _ := Field(f); slices.Contains(left, i) != (own == first) {
				t.Errorf("Contest(%#v) = %v: the field of %d is %q, that of the first one left is %q", l, left, i, own, first)
			}
		}
	}
}

func TestLessIsAnOrder(t *testing.T) {
	var c chance
	frames := append(c.frames(60), wrongFrames()[:8]...)
	for i, f := range someFrames() {
		if i%3 == 0 {
			frames = append(frames, f)
		}
	}
	less := make([][]bool, len(frames))
	for i, f := range frames {
		for j, g := range frames {
			less[i] = append(less[i], Less(f, g))
			if less[i][j] && Less(g, f) {
				t.Errorf("%#v and %#v win against one another", f, g)
			}
		}
	}
	for i := range frames {
		for j := range frames {
			for k := range frames {
				if less[i][j] && less[j][k] && !less[i][k] {
					t.Errorf("of %#v, %#v, %#v each wins against the next one, but the first not against the last", frames[i], frames[j], frames[k])
				}
			}
		}
	}
}

func TestTheFirstOfARowThatIsOrderedIsLeft(t *testing.T) {
	var c chance
	for range 2000 {
		row, e := Order(c.frames(1 + int(c.below(9))))
		left, lost, e2 := Contest(row)
		if e != api.OK || e2 != api.OK || left[0] != 0 || lost[0] != -1 {
			t.Errorf("Contest(%#v) = %v, %v", row, left, lost)
		}
		for i := range row[1:] {
			if Less(row[i+1], row[i]) {
				t.Errorf("Order answers %#v, where %d wins against the one ahead of it", row, i+1)
			}
		}
	}
}

// R4: a list that is handed in stays as it is, and what is answered shares no memory with it.

func TestListsStay(t *testing.T) {
	l := []api.Frame{{Id: 5}, {Id: 3}, {Id: 4}}
	was := slices.Clone(l)
	left, lost, _ := Contest(l)
	row, _ := Order(l)
	if !slices.Equal(l, was) {
		t.Errorf("the list became %#v", l)
	}
	clear(l)
	if !slices.Equal(row, []api.Frame{{Id: 3}, {Id: 4}, {Id: 5}}) || !slices.Equal(left, []int{1}) || !slices.Equal(lost, []int{8, -1, 8}) {
		t.Errorf("answers became %#v, %v, %v", row, left, lost)
	}
	single := []api.Frame{{Id: 5}}
	row, _ = Order(single)
	single[0].Id = 6
	if row[0].Id != 5 {
		t.Errorf("the answer became %#v", row)
	}
}

// R1: a second call answers the same.

func TestNothingIsKept(t *testing.T) {
	l := []api.Frame{{Id: 5}, {Id: 3, Remote: true}, {Id: 3 << 18, Ext: true}}
	var answers [][]any
	for range 2 {
		var told []any
		keep := func(x ...any) { told = append(told, x...) }
		row, e := Field(l[2])
		keep(row, e)
		row, e = Field(api.Frame{Id: 1 << 11})
		keep(row, e, Less(l[0], l[1]), Less(l[1], l[0]), Less(l[1], l[2]))
		left, lost, e := Contest(l)
		keep(left, lost, e)
		left, lost, e = Contest(nil)
		keep(left, lost, e)
		frames, e := Order(l)
		keep(frames, e)
		frames, e = Order(wrongFrames())
		keep(frames, e)
		answers = append(answers, told)
	}
	if !reflect.DeepEqual(answers[0], answers[1]) {
		t.Error(answers)
	}
}

// P1: no call panics, whatever it is given; a panic here ends the test.

func FuzzNoCallPanics(f *testing.F) {
	f.Add(uint32(5), false, false, 0, "", uint32(3), true, false, 0, "")
	f.Add(uint32(5), false, true, 8, "", uint32(5<<18), true, true, 8, "")
	f.Add(uint32(1<<11), false, false, 0, "", uint32(1<<29-1), true, false, 1, "a")
	f.Add(uint32(math.MaxUint32), true, false, math.MaxInt, "é", uint32(0), false, false, math.MinInt, "\xff")
	f.Add(uint32(7), false, false, 9, "123456789", uint32(7), false, true, -1, "a")
	f.Fuzz(func(t *testing.T, id uint32, ext, remote bool, dlc int, data string, id2 uint32, ext2, remote2 bool, dlc2 int, data2 string) {
		a := api.Frame{Id: id, Ext: ext, Remote: remote, Dlc: dlc, Data: data}
		b := api.Frame{Id: id2, Ext: ext2, Remote: remote2, Dlc: dlc2, Data: data2}
		_, e := Field(a)
		_, e2 := Field(b)
		l := []api.Frame{a, b, a}
		if e != api.OK || e2 != api.OK {
			isLess(t, a, b, false)
			isContest(t, l, nil, nil, api.ErrArg)
			isOrder(t, l, nil, api.ErrArg)
			return
		}
		isLess(t, a, b, rank(a) < rank(b))
		left, lost := contested(l)
		isContest(t, l, left, lost, api.OK)
		isOrder(t, l, ordered(l), api.OK)
	})
}
