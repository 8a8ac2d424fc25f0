package bits

import (
	"math"
	"slices"
	"strings"
	"testing"

	"campanile/api"
)

// wrongRows holds rows that may not be: one bit too long, and other bytes at each end, in the middle, and alone.
func wrongRows() []string {
	return []string{
		strings.Repeat("0", api.MaxBits+1),
		strings.Repeat("1", api.MaxBits+1),
		"2", "/", "a", " ", "\x00", "\x01", "\xff", "é",
		"201", "021", "012", "01 ", " 01", "01\n",
		strings.Repeat("1", api.MaxBits-1) + "2",
	}
}

// someRows holds rows of many lengths, the edges among them.
func someRows() []string {
	rows := []string{"", "0", "1", "00", "01", "10", "11", "00110", "0101010"}
	for _, n := range []int{63, 64, 65, 3999, 4000} {
		rows = append(rows, strings.Repeat("0", n), strings.Repeat("1", n), mixed(n))
	}
	return rows
}

// mixed is a row whose runs have many lengths.
func mixed(n int) string {
	row := make([]byte, n)
	seed := uint32(n) + 1
	for i := range row {
		seed = seed*1664525 + 1013904223
		row[i] = '0' + byte(seed>>31)
	}
	return string(row)
}

// P1.1

func TestRight(t *testing.T) {
	for _, s := range someRows() {
		if !Right(s) {
			t.Errorf("a row of %d bits may be: %.20q", len(s), s)
		}
	}
	for _, s := range wrongRows() {
		if Right(s) {
			t.Errorf("a row of %d bytes may not be: %.20q", len(s), s)
		}
	}
}

func TestOf(t *testing.T) {
	cases := []struct {
		n     uint64
		width int
		want  string
	}{
		{0, 0, ""},
		{0, 1, "0"},
		{1, 1, "1"},
		{5, 3, "101"},
		{5, 4, "0101"},
		{6, 4, "0110"},
		{15, 4, "1111"},
		{0, 8, "00000000"},
		{1, 8, "00000001"},
		{128, 8, "10000000"},
		{math.MaxUint64 >> 1, 63, strings.Repeat("1", 63)},
		{0, 64, strings.Repeat("0", 64)},
		{1, 64, strings.Repeat("0", 63) + "1"},
		{1 << 63, 64, "1" + strings.Repeat("0", 63)},
		{math.MaxUint64, 64, strings.Repeat("1", 64)},
	}
	for _, c := range cases {
		if s, e := Of(c.n, c.width); s != c.want || e != api.OK {
			t.Errorf("Of(%d, %d) = %q, %d; want %q", c.n, c.width, s, e, c.want)
		}
	}
}

func TestOfWrong(t *testing.T) {
	cases := []struct {
		n     uint64
		width int
	}{
		{0, -1}, {1, -1}, {0, -64}, {0, math.MinInt},
		{0, 65}, {1, 65}, {0, 128}, {0, math.MaxInt},
		{1, 0}, {math.MaxUint64, 0},
		{2, 1}, {16, 4}, {17, 4}, {256, 8},
		{1 << 63, 63}, {math.MaxUint64, 63},
	}
	for _, c := range cases {
		if s, e := Of(c.n, c.width); s != "" || e != api.ErrArg {
			t.Errorf("Of(%d, %d) = %q, %d; want ErrArg", c.n, c.width, s, e)
		}
	}
}

func TestNumber(t *testing.T) {
	cases := []struct {
		s    string
		want uint64
	}{
		{"", 0},
		{"0", 0},
		{"1", 1},
		{"01", 1},
		{"10", 2},
		{"1011", 11},
		{"0001011", 11},
		{strings.Repeat("0", 64), 0},
		{strings.Repeat("0", 63) + "1", 1},
		{"1" + strings.Repeat("0", 63), 1 << 63},
		{strings.Repeat("1", 63), math.MaxUint64 >> 1},
		{strings.Repeat("1", 64), math.MaxUint64},
	}
	for _, c := range cases {
		if n, e := Number(c.s); n != c.want || e != api.OK {
			t.Errorf("Number(%q) = %d, %d; want %d", c.s, n, e, c.want)
		}
	}
}

func TestNumberWrong(t *testing.T) {
	long := []string{
		strings.Repeat("0", 65), strings.Repeat("1", 65), "1" + strings.Repeat("0", 64),
		strings.Repeat("0", api.MaxBits),
	}
	for _, s := range append(long, wrongRows()...) {
		if n, e := Number(s); n != 0 || e != api.ErrArg {
			t.Errorf("Number(%.70q) = %d, %d; want ErrArg", s, n, e)
		}
	}
}

// P1.2

func TestAnd(t *testing.T) {
	all := strings.Repeat("1", api.MaxBits)
	none := strings.Repeat("0", api.MaxBits)
	cases := []struct {
		rows []string
		want string
	}{
		{[]string{""}, ""},
		{[]string{"", "", ""}, ""},
		{[]string{"0"}, "0"},
		{[]string{"1"}, "1"},
		{[]string{"0110"}, "0110"},
		{[]string{"0011", "0101"}, "0001"},
		{[]string{"00001111", "00110011", "01010101"}, "00000001"},
		{[]string{"1111", "1111", "1101"}, "1101"},
		{[]string{"1110", "1101", "1011", "0111"}, "0000"},
		{[]string{"1111", "1111"}, "1111"},
		{[]string{all, all}, all},
		{[]string{all, none, all}, none},
		{[]string{all, mixed(api.MaxBits)}, mixed(api.MaxBits)},
	}
	for _, c := range cases {
		if s, e := And(c.rows...); s != c.want || e != api.OK {
			t.Errorf("And(%.70q) = %.70q, %d; want %.70q", c.rows, s, e, c.want)
		}
	}
}

func TestAndOfMany(t *testing.T) {
	rows := slices.Repeat([]string{"1111"}, 1000)
	rows[0], rows[500], rows[999] = "0111", "1101", "1110"
	if s, e := And(rows...); s != "0100" || e != api.OK {
		t.Error(s, e)
	}
}

func TestAndWrong(t *testing.T) {
	cases := [][]string{
		nil,
		{},
		{"0", "01"},
		{"01", "0"},
		{"", "0"},
		{"0", ""},
		{"01", "01", "010"},
		{"01", "010", "01"},
		{strings.Repeat("1", api.MaxBits), strings.Repeat("1", api.MaxBits-1)},
	}
	for _, s := range wrongRows() {
		right := strings.Repeat("1", len(s))
		cases = append(cases, []string{s}, []string{s, s}, []string{s, right}, []string{right, s}, []string{"0", s})
	}
	for _, rows := range cases {
		if s, e := And(rows...); s != "" || e != api.ErrArg {
			t.Errorf("And(%.70q) = %.70q, %d; want ErrArg", rows, s, e)
		}
	}
}

func TestFlip(t *testing.T) {
	all := strings.Repeat("1", api.MaxBits)
	cases := []struct {
		s    string
		at   []int
		want string
	}{
		{"", nil, ""},
		{"", []int{}, ""},
		{"0110", nil, "0110"},
		{"0", []int{0}, "1"},
		{"1", []int{0}, "0"},
		{"0011", []int{0, 3}, "1010"},
		{"0011", []int{3, 0}, "1010"},
		{"0011", []int{0, 1, 2, 3}, "1100"},
		{"0011", []int{1, 1}, "0011"},
		{"0011", []int{1, 1, 1}, "0111"},
		{"0011", []int{1, 2, 1}, "0001"},
		{"0011", []int{2, 1, 2, 1, 2}, "0001"},
		{all, []int{0, api.MaxBits - 1}, "0" + all[2:] + "0"},
	}
	for _, c := range cases {
		if s, e := Flip(c.s, c.at...); s != c.want || e != api.OK {
			t.Errorf("Flip(%.70q, %v) = %.70q, %d; want %.70q", c.s, c.at, s, e, c.want)
		}
	}
}

func TestFlipWrong(t *testing.T) {
	cases := []struct {
		s  string
		at []int
	}{
		{"", []int{0}},
		{"", []int{-1}},
		{"0011", []int{4}},
		{"0011", []int{-1}},
		{"0011", []int{5}},
		{"0011", []int{math.MaxInt}},
		{"0011", []int{math.MinInt}},
		{"0011", []int{0, 4}},
		{"0011", []int{4, 0}},
		{"0011", []int{4, 4}},
		{"0011", []int{0, -1, 0}},
		{strings.Repeat("1", api.MaxBits), []int{api.MaxBits}},
	}
	for _, c := range cases {
		if s, e := Flip(c.s, c.at...); s != "" || e != api.ErrArg {
			t.Errorf("Flip(%.70q, %v) = %.70q, %d; want ErrArg", c.s, c.at, s, e)
		}
	}
	for _, s := range wrongRows() {
		for _, at := range [][]int{nil, {0}, {len(s)}, {-1}} {
			if r, e := Flip(s, at...); r != "" || e != api.ErrArg {
				t.Errorf("Flip(%.20q, %v) = %.20q, %d; want ErrArg", s, at, r, e)
			}
		}
	}
}

// P1.3

func TestRuns(t *testing.T) {
	cases := []struct {
		s    string
		want []api.Run
	}{
		{"", nil},
		{"0", []api.Run{{Bit: '0', N: 1}}},
		{"1", []api.Run{{Bit: '1', N: 1}}},
		{"01", []api.Run{{Bit: '0', N: 1}, {Bit: '1', N: 1}}},
		{"10", []api.Run{{Bit: '1', N: 1}, {Bit: '0', N: 1}}},
		{"00110", []api.Run{{Bit: '0', N: 2}, {Bit: '1', N: 2}, {Bit: '0', N: 1}}},
		{"1000111", []api.Run{{Bit: '1', N: 1}, {Bit: '0', N: 3}, {Bit: '1', N: 3}}},
		{strings.Repeat("0", 64), []api.Run{{Bit: '0', N: 64}}},
		{strings.Repeat("1", 65), []api.Run{{Bit: '1', N: 65}}},
		{strings.Repeat("0", 4000), []api.Run{{Bit: '0', N: 4000}}},
		{strings.Repeat("01", 2000), slices.Repeat([]api.Run{{Bit: '0', N: 1}, {Bit: '1', N: 1}}, 2000)},
	}
	for _, c := range cases {
		if runs, e := Runs(c.s); !slices.Equal(runs, c.want) || e != api.OK {
			t.Errorf("Runs(%.70q) = %.20v, %d", c.s, runs, e)
		}
	}
}

func TestRunsWrong(t *testing.T) {
	for _, s := range wrongRows() {
		if runs, e := Runs(s); len(runs) != 0 || e != api.ErrArg {
			t.Errorf("Runs(%.20q) = %.20v, %d; want ErrArg", s, runs, e)
		}
	}
}

// P1.4

func TestNumbersAndBitsThereAndBack(t *testing.T) {
	for width := 0; width <= 64; width++ {
		top := uint64(math.MaxUint64)
		if width < 64 {
			top = 1<<width - 1
		}
		for _, n := range []uint64{0, 1, 2, 5, 0xA5, 0x0123456789ABCDEF, 0xFEDCBA9876543210, top, top / 2, top/2 + 1} {
			n &= top
			s, e := Of(n, width)
			if e != api.OK || len(s) != width {
				t.Fatalf("Of(%d, %d) = %q, %d", n, width, s, e)
			}
			if back, e := Number(s); back != n || e != api.OK {
				t.Errorf("Number(Of(%d, %d)) = %d, %d", n, width, back, e)
			}
		}
	}
	for n := range 65 {
		s := mixed(n)
		number, e := Number(s)
		if e != api.OK {
			t.Fatalf("Number(%q): %d", s, e)
		}
		if back, e := Of(number, n); back != s || e != api.OK {
			t.Errorf("Of(Number(%q), %d) = %q, %d", s, n, back, e)
		}
	}
}

func TestAndHasNoOrder(t *testing.T) {
	a, b, c := "00001111", "00110011", "11010101"
	want, e := And(a, b, c)
	if e != api.OK {
		t.Fatal(e)
	}
	for _, rows := range [][]string{{a, c, b}, {b, a, c}, {b, c, a}, {c, a, b}, {c, b, a}, {a, b, c, a}, {b, b, a, a, c, c}} {
		if s, e := And(rows...); s != want || e != api.OK {
			t.Errorf("And(%q) = %q, %d; want %q", rows, s, e, want)
		}
	}
	for _, s := range someRows() {
		if twice, e := And(s, s); twice != s || e != api.OK {
			t.Errorf("a row of %d bits put twice: %.70q, %d", len(s), twice, e)
		}
	}
}

func TestFlipTwiceIsTheRow(t *testing.T) {
	for _, s := range someRows() {
		var at []int
		for i := 0; i < len(s); i += 3 {
			at = append(at, i)
		}
		turned, e := Flip(s, at...)
		if e != api.OK || s != "" && turned == s {
			t.Fatalf("Flip of %d bits: %d", len(s), e)
		}
		if back, e := Flip(turned, at...); back != s || e != api.OK {
			t.Errorf("Flip there and back of %d bits: %d", len(s), e)
		}
	}
}

func TestRunsAreTheRow(t *testing.T) {
	for _, s := range someRows() {
		runs, e := Runs(s)
		if e != api.OK {
			t.Fatalf("Runs of %d bits: %d", len(s), e)
		}
		back := ""
		for i, r := range runs {
			if r.N < 1 || i > 0 && r.Bit == runs[i-1].Bit {
				t.Errorf("run %d of %d bits is none of its own: %v", i, len(s), r)
			}
			back += strings.Repeat(string(r.Bit), r.N)
		}
		if back != s {
			t.Errorf("the runs of %d bits are not the row", len(s))
		}
	}
}

// R1, R3, R4: what was handed in stands as it was, and a second call answers the same.

func TestNothingIsKeptOrChanged(t *testing.T) {
	rows, at := []string{"0011", "0101"}, []int{3, 0, 0}
	for range 2 {
		if s, e := And(rows...); s != "0001" || e != api.OK {
			t.Error(s, e)
		}
		if s, e := Flip("0011", at...); s != "0010" || e != api.OK {
			t.Error(s, e)
		}
		runs, e := Runs("0011")
		if !slices.Equal(runs, []api.Run{{Bit: '0', N: 2}, {Bit: '1', N: 2}}) || e != api.OK {
			t.Error(runs, e)
		}
		clear(runs)
	}
	if !slices.Equal(rows, []string{"0011", "0101"}) || !slices.Equal(at, []int{3, 0, 0}) {
		t.Error("a list that was handed in was changed:", rows, at)
	}
}

// P1: no call panics, whatever it is given; a panic here ends the test.

func FuzzNoCallPanics(f *testing.F) {
	f.Add("0101", "0011", uint64(5), 4, 0)
	f.Add("", "", uint64(0), 0, -1)
	f.Add("012", "\xff", uint64(math.MaxUint64), math.MinInt, math.MaxInt)
	f.Add(strings.Repeat("1", 4001), strings.Repeat("1", 4001), uint64(1), math.MaxInt, 4000)
	f.Fuzz(func(t *testing.T, a, b string, n uint64, width, at int) {
		Right(a)
		Number(a)
		Runs(a)
		And(a, b)
		And(a, b, a)
		Flip(a, at, width)
		if s, e := Of(n, width); e == api.OK && len(s) != width {
			t.Errorf("Of(%d, %d) = %q", n, width, s)
		}
	})
}
