package crc

import (
	"math"
	"strconv"
	"strings"
	"testing"

	"campanile/api"
)

// wrongRows holds rows that may not be: one bit too long, and other bytes at each end, in the middle, and alone.
func wrongRows() []string {
	return []string{
		strings.Repeat("0", api.MaxBits+1),
		strings.Repeat("1", api.MaxBits+1),
		"2", "/", "a", " ", "\x00", "\x01", "\xff", "é",
		"201", "021", "012", "01 ", " 01", "01\n",
		strings.Repeat("0", 14) + "2",
		"2" + strings.Repeat("0", 14),
		strings.Repeat("0", 19) + "x",
		strings.Repeat("1", api.MaxBits-1) + "2",
	}
}

// someRows holds rows of many lengths, the edges among them, each short enough for a sum behind it.
func someRows() []string {
	rows := []string{"", "0", "1", "00", "01", "10", "11", "0101", "0000000001010000000"}
	for _, n := range []int{14, 15, 16, 19, 83, 98, 3984, 3985} {
		rows = append(rows, strings.Repeat("0", n), strings.Repeat("1", n), mixed(n, 1))
	}
	return rows
}

// mixed is a row without a rule, another one for each seed.
func mixed(n int, seed uint32) string {
	row := make([]byte, n)
	for i := range row {
		seed = seed*1664525 + 1013904223
		row[i] = '0' + byte(seed>>31)
	}
	return string(row)
}

// turn is a row, turned where the other one, which begins at a place of it, has `1`.
func turn(s string, at int, by string) string {
	row := []byte(s)
	for i := range len(by) {
		if by[i] == '1' {
			row[at+i] ^= 1
		}
	}
	return string(row)
}

// binary is a number in 15 bits, the highest first.
func binary(n uint32) string {
	s := strconv.FormatUint(uint64(n), 2)
	return strings.Repeat("0", 15-len(s)) + s
}

// rest is what is left of a row with 15 bits `0` behind it, divided by the polynomial, as one does it on paper: another way to the sum.
func rest(t *testing.T, s string) uint32 {
	t.Helper()
	const polynomial = "1100010110011001"
	row := s + strings.Repeat("0", 15)
	for i := range len(s) {
		if row[i] == '1' {
			row = turn(row, i, polynomial)
		}
	}
	n, e := strconv.ParseUint(row[len(s):], 2, 15)
	if e != nil {
		t.Fatal(e)
	}
	return uint32(n)
}

// framed is a row with its sum behind it.
func framed(t *testing.T, s string) string {
	t.Helper()
	row, e := Frame(s)
	if e != api.OK {
		t.Fatalf("Frame of %d bits: %d", len(s), e)
	}
	return row
}

// sum is the sum of a row.
func sum(t *testing.T, s string) uint32 {
	t.Helper()
	n, e := Of(s)
	if e != api.OK {
		t.Fatalf("Of %d bits: %d", len(s), e)
	}
	return n
}

// P2.1

func TestStep(t *testing.T) {
	cases := []struct {
		sum  uint32
		bit  byte
		want uint32
	}{
		{0, '0', 0},
		{0, '1', 0x4599},
		{1, '0', 2},
		{1, '1', 2 ^ 0x4599},
		{0x3FFF, '0', 0x7FFE},
		{0x3FFF, '1', 0x7FFE ^ 0x4599},
		{0x4000, '0', 0x4599},
		{0x4000, '1', 0},
		{0x4001, '0', 2 ^ 0x4599},
		{0x4001, '1', 2},
		{0x7FFF, '0', 0x7FFE ^ 0x4599},
		{0x7FFF, '1', 0x7FFE},
		{0x4599, '0', 0x0B32 ^ 0x4599},
		{0x4599, '1', 0x0B32},
	}
	for _, c := range cases {
		if n := Step(c.sum, c.bit); n != c.want {
			t.Errorf("Step(%#x, %q) = %#x; want %#x", c.sum, c.bit, n, c.want)
		}
	}
}

func TestStepTakesTheLast15Bits(t *testing.T) {
	for _, low := range []uint32{0, 1, 0x3FFF, 0x4000, 0x4599, 0x7FFF} {
		for _, high := range []uint32{1 << 15, 1 << 16, 1 << 30, 1 << 31, math.MaxUint32 &^ 0x7FFF} {
			for _, bit := range []byte{'0', '1', 'x'} {
				if n, want := Step(high|low, bit), Step(low, bit); n != want {
					t.Errorf("Step(%#x, %q) = %#x; want %#x", high|low, bit, n, want)
				}
			}
		}
	}
}

func TestStepTakesOtherBytesAs0(t *testing.T) {
	for bit := range 256 {
		if bit == '1' {
			continue
		}
		for _, low := range []uint32{0, 1, 0x4000, 0x7FFF} {
			if n, want := Step(low, byte(bit)), Step(low, '0'); n != want {
				t.Errorf("Step(%#x, %#x) = %#x; want %#x", low, bit, n, want)
			}
		}
	}
}

func TestOf(t *testing.T) {
	cases := []struct {
		s    string
		want uint32
	}{
		{"", 0},
		{"0", 0},
		{"000", 0},
		{"1", 0x4599},
		{"01", 0x4599},
		{"0001", 0x4599},
		{"10", 0x0B32 ^ 0x4599},
		{"11", 0x0B32},
		{strings.Repeat("0", 3985), 0},
		{strings.Repeat("0", 4000), 0},
		{strings.Repeat("0", 3999) + "1", 0x4599},
		// The polynomial itself leaves nothing.
		{"1100010110011001", 0},
	}
	for _, c := range cases {
		if n, e := Of(c.s); n != c.want || e != api.OK {
			t.Errorf("Of(%.70q) = %#x, %d; want %#x", c.s, n, e, c.want)
		}
	}
}

// The catalogues of sums check each by the sum of these nine characters.
func TestOfTheCataloguesText(t *testing.T) {
	row := ""
	for _, c := range []byte("123456789") {
		row += binary(uint32(c))[7:]
	}
	if n, e := Of(row); n != 0x059E || e != api.OK {
		t.Errorf("Of(%q) = %#x, %d; want 0x59e", row, n, e)
	}
}

func TestOfIsWhatDivisionLeaves(t *testing.T) {
	for n := range 200 {
		s := mixed(n, uint32(n))
		if got, want := sum(t, s), rest(t, s); got != want {
			t.Errorf("Of(%q) = %#x; want %#x", s, got, want)
		}
	}
	s := mixed(api.MaxBits, 7)
	if got, want := sum(t, s), rest(t, s); got != want {
		t.Errorf("Of 4000 bits = %#x; want %#x", got, want)
	}
}

func TestOfIsStepByStep(t *testing.T) {
	for _, s := range append(someRows(), mixed(api.MaxBits, 9)) {
		var want uint32
		for i := range len(s) {
			want = Step(want, s[i])
		}
		if got := sum(t, s); got != want {
			t.Errorf("Of %d bits = %#x; want %#x", len(s), got, want)
		}
	}
}

func TestOfWrong(t *testing.T) {
	for _, s := range wrongRows() {
		if n, e := Of(s); n != 0 || e != api.ErrArg {
			t.Errorf("Of(%.20q) = %#x, %d; want ErrArg", s, n, e)
		}
	}
}

// P2.2

func TestFrame(t *testing.T) {
	cases := []struct{ s, want string }{
		{"", "000000000000000"},
		{"0", "0000000000000000"},
		{"1", "1100010110011001"},
		{"01", "01100010110011001"},
		{"11", "11000101100110010"},
		{"0000000001010000000", "0000000001010000000" + binary(rest(t, "0000000001010000000"))},
		{strings.Repeat("0", 3985), strings.Repeat("0", 4000)},
		{strings.Repeat("0", 3984) + "1", strings.Repeat("0", 3984) + "1100010110011001"},
	}
	for _, c := range cases {
		if s, e := Frame(c.s); s != c.want || e != api.OK {
			t.Errorf("Frame(%.70q) = %.70q, %d; want %.70q", c.s, s, e, c.want)
		}
	}
}

func TestFrameIsTheRowAndItsSum(t *testing.T) {
	for _, s := range someRows() {
		if row, want := framed(t, s), s+binary(sum(t, s)); row != want {
			t.Errorf("Frame of %d bits = %.70q; want %.70q", len(s), row, want)
		}
	}
}

func TestFrameWrong(t *testing.T) {
	cases := wrongRows()
	for _, n := range []int{3986, 3990, 3999, 4000} {
		cases = append(cases, strings.Repeat("0", n), strings.Repeat("1", n))
	}
	for _, s := range cases {
		if row, e := Frame(s); row != "" || e != api.ErrArg {
			t.Errorf("Frame of %d bytes (%.20q) = %.20q, %d; want ErrArg", len(s), s, row, e)
		}
	}
}

func TestCheck(t *testing.T) {
	right := []string{
		strings.Repeat("0", 15),
		strings.Repeat("0", 16),
		strings.Repeat("0", 4000),
		"1100010110011001",
		"01100010110011001",
		strings.Repeat("0", 3984) + "1100010110011001",
	}
	for _, s := range right {
		if !Check(s) {
			t.Errorf("the sum of %d bits is 0: %.70q", len(s), s)
		}
	}
	wrong := []string{
		"", "0", "1",
		strings.Repeat("0", 14),
		"100010110011001",
		"000000000000001",
		strings.Repeat("1", 15),
		"1100010110011000",
		"0100010110011001",
		"11000101100110010" + "1",
		strings.Repeat("0", 3999) + "1",
		"1" + strings.Repeat("0", 3999),
		strings.Repeat("0", 4001),
		strings.Repeat("0", 3985) + "1100010110011001",
		// These would have the sum 0, if any other byte were a bit `0`.
		strings.Repeat("2", 15),
		strings.Repeat("0", 14) + "x",
		"x" + "1100010110011001",
		"110001011 011001",
		"\x00" + strings.Repeat("0", 15),
	}
	for _, s := range append(wrong, wrongRows()...) {
		if Check(s) {
			t.Errorf("this is told as right: %d bits, %.70q", len(s), s)
		}
	}
}

// Of all rows of 16 bits just those are right whose last 15 are the sum of the first.
func TestCheckOfAllRowsOf16Bits(t *testing.T) {
	for n := range 1 << 15 {
		for _, first := range []string{"0", "1"} {
			s := first + binary(uint32(n))
			want := s == strings.Repeat("0", 16) || s == "1100010110011001"
			if Check(s) != want {
				t.Errorf("Check(%q) = %t", s, !want)
			}
		}
	}
}

// P2.3

func TestARowWithItsSumIsRight(t *testing.T) {
	for _, s := range someRows() {
		if !Check(framed(t, s)) {
			t.Errorf("%d bits with their sum are told as wrong: %.70q", len(s), s)
		}
	}
}

func TestAllTurnsWithin15BitsAreSeen(t *testing.T) {
	for _, s := range []string{"", "1", "0101", mixed(19, 3)} {
		row := framed(t, s)
		for at := 0; at+15 <= len(row); at++ {
			for by := uint32(1); by < 1<<15; by++ {
				if Check(turn(row, at, binary(by))) {
					t.Fatalf("%q, turned by %q at %d, is told as right", row, binary(by), at)
				}
			}
		}
	}
}

func TestTurnsWithin15BitsOfLongRowsAreSeen(t *testing.T) {
	ways := []string{
		"100000000000000", "000000000000001", "100000000000001", "111111111111111",
		"101010101010101", "110000000000011", "100010110011001", "110001011001100",
	}
	for _, n := range []int{83, 98, 3985} {
		row := framed(t, mixed(n, uint32(n)))
		// Counted from both ends, so that the first and the last bits are among those turned, though not all places are tried.
		for at := 0; at+15 <= len(row); at += 7 {
			for _, by := range ways {
				if Check(turn(row, at, by)) || Check(turn(row, len(row)-15-at, by)) {
					t.Fatalf("%d bits, turned by %q at %d or so far from the end, are told as right", len(row), by, at)
				}
			}
		}
	}
}

func TestEachTurnedBitIsSeen(t *testing.T) {
	row := framed(t, mixed(api.MaxBits-15, 5))
	for at := range len(row) {
		if Check(turn(row, at, "1")) {
			t.Fatalf("bit %d is turned, and nothing is seen", at)
		}
	}
}

// Within 16 bits that is no longer so: the polynomial, turned, isn't seen.
func TestATurnOf16BitsMayGoUnseen(t *testing.T) {
	row := framed(t, mixed(40, 2))
	for at := 0; at+16 <= len(row); at++ {
		if !Check(turn(row, at, "1100010110011001")) {
			t.Errorf("the polynomial, turned at %d, leaves a sum", at)
		}
	}
}

func TestSumsOfTurnedRowsAreSoTurned(t *testing.T) {
	for _, n := range []int{0, 1, 2, 14, 15, 16, 19, 83, 200, 3985, 4000} {
		rows := []string{strings.Repeat("0", n), strings.Repeat("1", n)}
		for seed := range uint32(10) {
			rows = append(rows, mixed(n, seed))
		}
		for _, a := range rows {
			for _, b := range rows {
				if got, want := sum(t, turn(a, 0, b)), sum(t, a)^sum(t, b); got != want {
					t.Errorf("two rows of %d bits: %#x; want %#x", n, got, want)
				}
			}
		}
	}
}

// R1: a second call answers the same.

func TestNothingIsKept(t *testing.T) {
	for range 2 {
		if n, e := Of("1"); n != 0x4599 || e != api.OK {
			t.Error(n, e)
		}
		if s, e := Frame("1"); s != "1100010110011001" || e != api.OK {
			t.Error(s, e)
		}
		if _, e := Of("x"); e != api.ErrArg {
			t.Error(e)
		}
		if !Check("1100010110011001") || Check("1100010110011000") {
			t.Error("check")
		}
	}
}

// P1: no call panics, whatever it is given; a panic here ends the test.

func FuzzNoCallPanics(f *testing.F) {
	f.Add("0101", uint32(0), byte('1'))
	f.Add("", uint32(math.MaxUint32), byte(0))
	f.Add("012", uint32(0x4000), byte(0xFF))
	f.Add(strings.Repeat("1", 3985), uint32(1), byte('0'))
	f.Add(strings.Repeat("1", 3986), uint32(1), byte('0'))
	f.Add(strings.Repeat("1", 4001), uint32(1), byte('0'))
	f.Fuzz(func(t *testing.T, s string, n uint32, bit byte) {
		if Step(n, bit) >= 1<<15 {
			t.Errorf("Step(%#x, %#x) is no sum", n, bit)
		}
		if n, _ := Of(s); n >= 1<<15 {
			t.Errorf("Of(%.70q) is no sum", s)
		}
		if row, e := Frame(s); Check(row) != (e == api.OK) {
			t.Errorf("Frame(%.70q) = %.70q, %d", s, row, e)
		}
		Check(s)
	})
}
