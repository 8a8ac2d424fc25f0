package stuff

import (
	"math"
	"strings"
	"testing"

	"campanile/api"
)

// wrongRows holds rows that may not be: one bit too long, and other bytes at each end, in the middle, and alone.
func wrongRows() []string {
	return []string{
		strings.Repeat("01", api.MaxBits/2) + "0",
		strings.Repeat("0", api.MaxBits+1),
		strings.Repeat("1", api.MaxBits+1),
		"2", "/", "a", " ", "\x00", "\x01", "\xff", "é",
		"201", "021", "012", "01 ", " 01", "01\n",
		"00000x", "x00000", "00000\x00", "111110\x01",
		// Each of these would be another error, if it might be.
		"0000002", "2000000", "000002", "200000",
		strings.Repeat("0", api.MaxBits-1) + "2",
		"2" + strings.Repeat("1", api.MaxBits-1),
	}
}

// someKnown holds what stuffing may know: nothing, and each count of each bit.
func someKnown() []api.Stuffer {
	known := []api.Stuffer{{}}
	for n := 1; n <= 5; n++ {
		known = append(known, api.Stuffer{Last: '0', N: n}, api.Stuffer{Last: '1', N: n})
	}
	return known
}

// wrongKnown holds what stuffing may not know.
func wrongKnown() []api.Stuffer {
	wrong := []api.Stuffer{}
	for _, last := range []byte{'0', '1'} {
		for _, n := range []int{0, -1, -5, 6, 7, 10, 256, 261, math.MaxInt, math.MinInt, math.MinInt + 1} {
			wrong = append(wrong, api.Stuffer{Last: last, N: n})
		}
	}
	for _, last := range []byte{1, '/', '2', 'a', 0x80, 0xFF} {
		for n := range 7 {
			wrong = append(wrong, api.Stuffer{Last: last, N: n})
		}
	}
	for _, n := range []int{-1, 1, 2, 3, 4, 5, 6, math.MaxInt, math.MinInt} {
		wrong = append(wrong, api.Stuffer{N: n})
	}
	return wrong
}

// mixed is a row without a rule, another one for each seed, of runs longer than chance makes them.
func mixed(n int, seed uint32) string {
	row := make([]byte, n)
	bit := byte('0')
	for i := range row {
		seed = seed*1664525 + 1013904223
		if seed>>30 == 0 {
			bit ^= 1
		}
		row[i] = bit
	}
	return string(row)
}

// allRows goes through all rows of so many bits.
func allRows(width int, see func(s string)) {
	row := make([]byte, width)
	for n := range 1 << width {
		for i := range row {
			row[i] = '0' + byte(n>>i&1)
		}
		see(string(row))
	}
}

// sixEqual tells whether six bits are equal, one behind the other.
func sixEqual(s string) bool {
	return strings.Contains(s, "000000") || strings.Contains(s, "111111")
}

// endsFull tells whether a row, in which no six bits are equal, ends with five that are.
func endsFull(s string) bool {
	return strings.HasSuffix(s, "00000") || strings.HasSuffix(s, "11111")
}

// withoutStuffed drops what stands behind each five equal bits of a row in which no six are: another way to its data.
func withoutStuffed(s string) string {
	out := ""
	for i := range len(s) {
		if i < 5 || !endsFull(s[i-5:i]) {
			out += s[i : i+1]
		}
	}
	return out
}

// stuffed is a row, stuffed.
func stuffed(t *testing.T, s string) string {
	t.Helper()
	row, e := Stuff(s)
	if e != api.OK {
		t.Fatalf("Stuff of %d bits (%.70q): %d", len(s), s, e)
	}
	return row
}

// P3.1

func TestRight(t *testing.T) {
	for _, x := range someKnown() {
		if !Right(x) {
			t.Errorf("%v may be known, and is told as wrong", x)
		}
	}
	for _, x := range wrongKnown() {
		if Right(x) {
			t.Errorf("%v may not be known, and is told as right", x)
		}
	}
}

func TestRightOfAllBytes(t *testing.T) {
	for last := range 256 {
		for n := -3; n < 300; n++ {
			x := api.Stuffer{Last: byte(last), N: n}
			want := last == 0 && n == 0 || (last == '0' || last == '1') && n >= 1 && n <= 5
			if Right(x) != want {
				t.Errorf("Right(%v) = %t", x, !want)
			}
		}
	}
}

func TestStep(t *testing.T) {
	cases := []struct {
		x    api.Stuffer
		bit  byte
		want api.Stuffer
		kind int
	}{
		{api.Stuffer{}, '0', api.Stuffer{Last: '0', N: 1}, api.KData},
		{api.Stuffer{}, '1', api.Stuffer{Last: '1', N: 1}, api.KData},
		{api.Stuffer{Last: '0', N: 1}, '0', api.Stuffer{Last: '0', N: 2}, api.KData},
		{api.Stuffer{Last: '0', N: 1}, '1', api.Stuffer{Last: '1', N: 1}, api.KData},
		{api.Stuffer{Last: '1', N: 1}, '0', api.Stuffer{Last: '0', N: 1}, api.KData},
		{api.Stuffer{Last: '1', N: 1}, '1', api.Stuffer{Last: '1', N: 2}, api.KData},
		{api.Stuffer{Last: '0', N: 2}, '0', api.Stuffer{Last: '0', N: 3}, api.KData},
		{api.Stuffer{Last: '1', N: 3}, '1', api.Stuffer{Last: '1', N: 4}, api.KData},
		{api.Stuffer{Last: '1', N: 3}, '0', api.Stuffer{Last: '0', N: 1}, api.KData},
		{api.Stuffer{Last: '0', N: 4}, '0', api.Stuffer{Last: '0', N: 5}, api.KData},
		{api.Stuffer{Last: '0', N: 4}, '1', api.Stuffer{Last: '1', N: 1}, api.KData},
		{api.Stuffer{Last: '1', N: 4}, '1', api.Stuffer{Last: '1', N: 5}, api.KData},
		{api.Stuffer{Last: '1', N: 4}, '0', api.Stuffer{Last: '0', N: 1}, api.KData},
		{api.Stuffer{Last: '0', N: 5}, '1', api.Stuffer{Last: '1', N: 1}, api.KStuff},
		{api.Stuffer{Last: '1', N: 5}, '0', api.Stuffer{Last: '0', N: 1}, api.KStuff},
		// Nothing changes where six would be equal.
		{api.Stuffer{Last: '0', N: 5}, '0', api.Stuffer{Last: '0', N: 5}, api.KError},
		{api.Stuffer{Last: '1', N: 5}, '1', api.Stuffer{Last: '1', N: 5}, api.KError},
	}
	for _, c := range cases {
		if x, kind, e := Step(c.x, c.bit); x != c.want || kind != c.kind || e != api.OK {
			t.Errorf("Step(%v, %q) = %v, %d, %d; want %v, %d", c.x, c.bit, x, kind, e, c.want, c.kind)
		}
	}
}

func TestStepOfAllThatMayBeKnown(t *testing.T) {
	for _, x := range someKnown() {
		for _, bit := range []byte{'0', '1'} {
			want, kind := api.Stuffer{Last: bit, N: 1}, api.KData
			switch {
			case x.N == 5 && bit == x.Last:
				want, kind = x, api.KError
			case x.N == 5:
				kind = api.KStuff
			case bit == x.Last:
				want.N = x.N + 1
			}
			if y, k, e := Step(x, bit); y != want || k != kind || e != api.OK {
				t.Errorf("Step(%v, %q) = %v, %d, %d; want %v, %d", x, bit, y, k, e, want, kind)
			}
		}
	}
}

func TestStepWrong(t *testing.T) {
	for _, x := range wrongKnown() {
		for _, bit := range []byte{'0', '1', 0, '2', x.Last} {
			if y, kind, e := Step(x, bit); y != (api.Stuffer{}) || kind != 0 || e != api.ErrArg {
				t.Errorf("Step(%v, %q) = %v, %d, %d; want ErrArg", x, bit, y, kind, e)
			}
		}
	}
	for _, x := range someKnown() {
		for bit := range 256 {
			if bit == '0' || bit == '1' {
				continue
			}
			if y, kind, e := Step(x, byte(bit)); y != (api.Stuffer{}) || kind != 0 || e != api.ErrArg {
				t.Errorf("Step(%v, %#x) = %v, %d, %d; want ErrArg", x, bit, y, kind, e)
			}
		}
	}
}

// P3.2

func TestStuff(t *testing.T) {
	cases := []struct{ s, want string }{
		{"", ""},
		{"0", "0"},
		{"1", "1"},
		{"0101", "0101"},
		{"0000", "0000"},
		{"1111", "1111"},
		{"00000", "000001"},
		{"11111", "111110"},
		{"000000", "0000010"},
		{"111111", "1111101"},
		{"000001", "0000011"},
		{"111110", "1111100"},
		{"1111100000", "111110000010"},
		{"0000011111", "000001111101"},
		// What was put in counts as one of the next five.
		{"000001111", "00000111110"},
		{"111110000", "11111000001"},
		{"00000111", "000001111"},
		{"0000011110000", "0000011111000001"},
		{"0000000000", "000001000001"},
		{"00000000000", "0000010000010"},
		{"1000001", "10000011"},
		{"0111101111", "0111101111"},
		{"01111101111", "011111001111"},
		{strings.Repeat("0", 20), strings.Repeat("000001", 4)},
	}
	for _, c := range cases {
		if s, e := Stuff(c.s); s != c.want || e != api.OK {
			t.Errorf("Stuff(%q) = %q, %d; want %q", c.s, s, e, c.want)
		}
	}
}

func TestStuffOfLongRows(t *testing.T) {
	unlike := strings.Repeat("01", api.MaxBits/2)
	cases := []struct {
		s    string
		bits int
	}{
		{unlike, 4000},
		{unlike[:3999], 3999},
		{strings.Repeat("0", 3200), 3840},
		{strings.Repeat("0", 3333), 3999},
		{strings.Repeat("0", 3334), 4000},
		{strings.Repeat("1", 3334), 4000},
		// No five are equal here; with one more in front, four bits lead to one that is put in, all along.
		{strings.Repeat("00001111", 500), 4000},
		{"0" + strings.Repeat("00001111", 399), 3991},
		{"0" + strings.Repeat("00001111", 399) + "000", 3994},
		{"0" + strings.Repeat("00001111", 399) + "0000" + "1010", 4000},
		{unlike[:3994] + "00000", 4000},
		{unlike[:3993] + "11111" + "0", 4000},
		{unlike[:3996] + "0000", 4000},
		{"11111" + unlike[:3994], 4000},
	}
	for _, c := range cases {
		if s, e := Stuff(c.s); len(s) != c.bits || e != api.OK {
			t.Errorf("Stuff of %d bits = %d bits, %d; want %d", len(c.s), len(s), e, c.bits)
		}
	}
}

func TestStuffTooLong(t *testing.T) {
	unlike := strings.Repeat("01", api.MaxBits/2)
	cases := []string{
		strings.Repeat("0", 3335),
		strings.Repeat("1", 3335),
		strings.Repeat("0", 4000),
		strings.Repeat("1", 4000),
		"0" + strings.Repeat("00001111", 399) + "0000" + "10101",
		"0" + strings.Repeat("00001111", 400),
		// One bit too long by what stands behind the last bit, and by what stands further ahead.
		unlike[:3995] + "11111",
		unlike[:3994] + "00000" + "1",
		"11111" + unlike[:3995],
		unlike[:2000] + "00000" + unlike[:1995],
	}
	for _, s := range cases {
		if row, e := Stuff(s); row != "" || e != api.ErrLong {
			t.Errorf("Stuff of %d bits = %d bits, %d; want ErrLong", len(s), len(row), e)
		}
	}
}

func TestStuffWrong(t *testing.T) {
	for _, s := range wrongRows() {
		if row, e := Stuff(s); row != "" || e != api.ErrArg {
			t.Errorf("Stuff(%.20q) = %.20q, %d; want ErrArg", s, row, e)
		}
	}
}

func TestUnstuff(t *testing.T) {
	cases := []struct{ s, want string }{
		{"", ""},
		{"0", "0"},
		{"1", "1"},
		{"0101", "0101"},
		{"0000", "0000"},
		{"000001", "00000"},
		{"111110", "11111"},
		{"0000011", "000001"},
		{"0000010", "000000"},
		{"1111100", "111110"},
		{"111110000010", "1111100000"},
		{"00000111110", "000001111"},
		{"000001111", "00000111"},
		{"10000011", "1000001"},
		{strings.Repeat("000001", 4), strings.Repeat("0", 20)},
		{strings.Repeat("01", 2000), strings.Repeat("01", 2000)},
		{strings.Repeat("000001", 666) + "0000", strings.Repeat("0", 3334)},
		{strings.Repeat("01", 1997) + "000001", strings.Repeat("01", 1997) + "00000"},
	}
	for _, c := range cases {
		if s, e := Unstuff(c.s); s != c.want || e != api.OK {
			t.Errorf("Unstuff(%.70q) = %.70q, %d; want %.70q", c.s, s, e, c.want)
		}
	}
}

func TestUnstuffWrong(t *testing.T) {
	cases := []struct {
		s    string
		want api.Errno
	}{
		{"000000", api.ErrStuff},
		{"111111", api.ErrStuff},
		{"1000000", api.ErrStuff},
		{"0000001", api.ErrStuff},
		{"0000000000", api.ErrStuff},
		{"00000111111", api.ErrStuff},
		{"0101111111010", api.ErrStuff},
		// Once wrong, nothing behind it counts: neither good bits nor an end that is too short.
		{"00000001", api.ErrStuff},
		{"00000011111", api.ErrStuff},
		{"111111" + "00000", api.ErrStuff},
		{strings.Repeat("0", 4000), api.ErrStuff},
		{strings.Repeat("01", 1997) + "000000", api.ErrStuff},
		{"00000", api.ErrShort},
		{"11111", api.ErrShort},
		{"100000", api.ErrShort},
		{"0000011111", api.ErrShort},
		{"00000100000", api.ErrShort},
		{"010111110" + "11111", api.ErrShort},
		{strings.Repeat("01", 1997) + "0" + "11111", api.ErrShort},
	}
	for _, s := range wrongRows() {
		cases = append(cases, struct {
			s    string
			want api.Errno
		}{s, api.ErrArg})
	}
	for _, c := range cases {
		if s, e := Unstuff(c.s); s != "" || e != c.want {
			t.Errorf("Unstuff(%.70q) = %.70q, %d; want error %d", c.s, s, e, c.want)
		}
	}
}

func TestUnstuffOfAllShortRows(t *testing.T) {
	for width := range 15 {
		allRows(width, func(s string) {
			want, e := "", api.OK
			switch {
			case sixEqual(s):
				e = api.ErrStuff
			case endsFull(s):
				e = api.ErrShort
			default:
				want = withoutStuffed(s)
			}
			if row, got := Unstuff(s); row != want || got != e {
				t.Errorf("Unstuff(%q) = %q, %d; want %q, %d", s, row, got, want, e)
			}
		})
	}
}

// Bit by bit it is as Step tells it.
func TestUnstuffIsStepByStep(t *testing.T) {
	for seed := range uint32(300) {
		s := mixed(int(seed), seed)
		x, kind, want, e := api.Stuffer{}, 0, "", api.OK
		for i := 0; i < len(s) && kind != api.KError; i++ {
			x, kind, _ = Step(x, s[i])
			if kind == api.KData {
				want += s[i : i+1]
			}
		}
		switch {
		case kind == api.KError:
			want, e = "", api.ErrStuff
		case x.N == 5:
			want, e = "", api.ErrShort
		}
		if row, got := Unstuff(s); row != want || got != e {
			t.Errorf("Unstuff(%q) = %q, %d; want %q, %d", s, row, got, want, e)
		}
	}
}

// P3.3

// follows holds what a row, stuffed, must be.
func follows(t *testing.T, s string) {
	t.Helper()
	row := stuffed(t, s)
	if sixEqual(row) || endsFull(row) {
		t.Errorf("%.70q, stuffed, has too many equal bits: %.70q", s, row)
	}
	if len(row) < len(s) || len(row) > len(s)+len(s)/4+1 {
		t.Errorf("%d bits, stuffed, are %d", len(s), len(row))
	}
	if back, e := Unstuff(row); back != s || e != api.OK {
		t.Errorf("%.70q, stuffed and unstuffed, is %.70q, %d", s, back, e)
	}
}

func TestWhatIsStuffedIsUnstuffedAsItWas(t *testing.T) {
	for width := range 15 {
		allRows(width, func(s string) { follows(t, s) })
	}
	for seed := range uint32(200) {
		follows(t, mixed(int(seed)*16, seed))
	}
	follows(t, strings.Repeat("0", 3334))
	follows(t, "0"+strings.Repeat("00001111", 399))
	follows(t, strings.Repeat("01", 2000))
}

func TestWhatIsUnstuffedIsStuffedAsItWas(t *testing.T) {
	whole := func(s string) {
		row, e := Unstuff(s)
		if e != api.OK {
			return
		}
		if back := stuffed(t, row); back != s {
			t.Errorf("%.70q, unstuffed and stuffed, is %.70q", s, back)
		}
	}
	for width := range 15 {
		allRows(width, whole)
	}
	for _, s := range []string{
		strings.Repeat("000001", 666),
		strings.Repeat("000001", 666) + "0000",
		"000001" + strings.Repeat("1111000001", 399) + "1010",
		strings.Repeat("01", 2000),
	} {
		if _, e := Unstuff(s); e != api.OK {
			t.Errorf("Unstuff of %d bits: %d", len(s), e)
		}
		whole(s)
	}
}

// R1: a second call answers the same.

func TestNothingIsKept(t *testing.T) {
	for range 2 {
		x := api.Stuffer{Last: '1', N: 4}
		if y, kind, e := Step(x, '1'); y != (api.Stuffer{Last: '1', N: 5}) || kind != api.KData || e != api.OK {
			t.Error(y, kind, e)
		}
		if x != (api.Stuffer{Last: '1', N: 4}) {
			t.Error(x)
		}
		if s, e := Stuff("00000"); s != "000001" || e != api.OK {
			t.Error(s, e)
		}
		if _, e := Stuff("x"); e != api.ErrArg {
			t.Error(e)
		}
		if s, e := Unstuff("000001"); s != "00000" || e != api.OK {
			t.Error(s, e)
		}
		if _, e := Unstuff("000000"); e != api.ErrStuff {
			t.Error(e)
		}
		if _, e := Unstuff("0000"); e != api.OK {
			t.Error(e)
		}
	}
}

// P1: no call panics, whatever it is given; a panic here ends the test.

func FuzzNoCallPanics(f *testing.F) {
	f.Add("0101", byte('0'), 1, byte('1'))
	f.Add("", byte(0), 0, byte(0))
	f.Add("000000", byte('0'), 5, byte('0'))
	f.Add("00000x", byte(0xFF), -1, byte('2'))
	f.Add(strings.Repeat("1", 3334), byte('1'), 6, byte('1'))
	f.Add(strings.Repeat("1", 4000), byte('1'), math.MaxInt, byte('1'))
	f.Add(strings.Repeat("1", 4001), byte('0'), math.MinInt, byte('0'))
	f.Fuzz(func(t *testing.T, s string, last byte, n int, bit byte) {
		x := api.Stuffer{Last: last, N: n}
		y, kind, e := Step(x, bit)
		if e == api.OK && (!Right(x) || !Right(y) || kind < api.KData || kind > api.KError) {
			t.Errorf("Step(%v, %#x) = %v, %d", x, bit, y, kind)
		}
		if row, e := Stuff(s); e == api.OK {
			if back, e := Unstuff(row); back != s || e != api.OK {
				t.Errorf("%.70q, stuffed and unstuffed, is %.70q, %d", s, back, e)
			}
		}
		Unstuff(s)
	})
}
