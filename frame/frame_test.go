package frame

import (
	"fmt"
	"math"
	"slices"
	"strings"
	"testing"

	"campanile/api"
)

// wrongRows holds rows that may not be: one bit too long, and other bytes at each end, in the middle, and alone.
func wrongRows() []string {
	head := "0000000001010000000"
	return []string{
		strings.Repeat("01", api.MaxBits/2) + "0",
		strings.Repeat("0", api.MaxBits+1),
		strings.Repeat("1", api.MaxBits+1),
		"2", "/", "a", " ", "\x00", "\x01", "\xff", "é",
		"201", "021", "012", "01 ", " 01", "01\n",
		// Each of these would be another error, or none, if it might be.
		head + "2", "2" + head, head[:18] + "2", head[:13] + "2" + head[14:],
		"1x", "000000x", strings.Repeat("0", 13) + "x",
		head + strings.Repeat("0", api.MaxBits-19) + "0",
		strings.Repeat("0", api.MaxBits-1) + "2",
	}
}

// someFrames holds frames that may be, the edges among them.
func someFrames() []api.Frame {
	var l []api.Frame
	for _, ext := range []bool{false, true} {
		ids := []uint32{0, 1, 5, 0x14, 0x2AA, 0x555, 0x7FE, 0x7FF}
		if ext {
			ids = append(ids, 0x800, 0x3FFFF, 0x40000, 0x1FFC0000, 0xAAAAAAA, 0x15555555, 1<<28, 1<<29-2, 1<<29-1)
		}
		for _, id := range ids {
			for dlc := range 9 {
				l = append(l, api.Frame{Id: id, Ext: ext, Remote: true, Dlc: dlc})
				for _, fill := range []string{"\x00", "\xFF", "\x55", "a", "\x0F", "\x1F", "\x80"} {
					l = append(l, api.Frame{Id: id, Ext: ext, Dlc: dlc, Data: strings.Repeat(fill, dlc)})
				}
				l = append(l, api.Frame{Id: id, Ext: ext, Dlc: dlc, Data: "\x01\x23\x45\x67\x89\xAB\xCD\xEF"[:dlc]})
			}
		}
		for i := range 29 {
			if ext || i < 11 {
				l = append(l, api.Frame{Id: 1 << i, Ext: ext})
			}
		}
	}
	return l
}

// chance is a row of numbers without a rule.
type chance uint32

func (c *chance) below(n uint32) uint32 {
	*c = *c*1664525 + 1013904223
	return uint32(uint64(*c) * uint64(n) >> 32)
}

func (c *chance) frame() api.Frame {
	f := api.Frame{Ext: c.below(2) == 1, Remote: c.below(4) == 0, Dlc: int(c.below(9))}
	f.Id = c.below(1 << 11)
	if f.Ext {
		f.Id = c.below(1 << 29)
	}
	if f.Remote {
		return f
	}
	// Many bits alike, so that many are stuffed.
	for range f.Dlc {
		f.Data += string([]byte{"\x00\xFF\x00\xFF\x1F\xE0\x55"[c.below(7)] ^ byte(c.below(2)*c.below(256))})
	}
	return f
}

// wrongFrames holds frames that may not be.
func wrongFrames() []api.Frame {
	l := []api.Frame{
		{Id: 1 << 11}, {Id: 1<<11 + 5}, {Id: 1 << 12}, {Id: 1<<29 - 1}, {Id: 1 << 29}, {Id: math.MaxUint32},
		{Id: 1 << 29, Ext: true}, {Id: 1<<29 + 5, Ext: true}, {Id: 1 << 31, Ext: true}, {Id: math.MaxUint32, Ext: true},
		{Id: 1 << 11, Remote: true}, {Id: 1 << 29, Ext: true, Remote: true},
		{Dlc: 9, Data: "123456789"}, {Dlc: 16, Data: strings.Repeat("a", 16)}, {Dlc: 15, Remote: true},
		{Dlc: 1}, {Data: "a"}, {Dlc: 1, Data: "ab"}, {Dlc: 8, Data: "1234567"}, {Dlc: 8, Data: "123456789"},
		{Dlc: 1, Data: "é"}, {Dlc: 256 + 1, Data: "a"}, {Dlc: -1, Data: "a"},
		// One that asks for data has none, not even as many as it asks for.
		{Remote: true, Dlc: 1, Data: "a"}, {Remote: true, Data: "a"}, {Remote: true, Dlc: 8, Data: "12345678"},
		{Id: 5, Data: strings.Repeat("a", 5000)}, {Id: 5, Dlc: 5000, Data: strings.Repeat("a", 5000)},
	}
	for _, dlc := range []int{-1, -8, 9, 10, 15, 16, 256, math.MaxInt, math.MinInt} {
		for _, ext := range []bool{false, true} {
			l = append(l, api.Frame{Id: 5, Ext: ext, Dlc: dlc}, api.Frame{Id: 5, Ext: ext, Dlc: dlc, Remote: true}, api.Frame{Id: 5, Ext: ext, Dlc: dlc, Data: "12345678"})
		}
	}
	return l
}

// headOf is a head, written by the library: another way to it.
func headOf(f api.Frame) string {
	r := 0
	if f.Remote {
		r = 1
	}
	s := fmt.Sprintf("0%011b%d00%04b", f.Id, r, f.Dlc)
	if f.Ext {
		id := fmt.Sprintf("%029b", f.Id)
		s = fmt.Sprintf("0%s11%s%d00%04b", id[:11], id[11:], r, f.Dlc)
	}
	for _, b := range []byte(f.Data) {
		s += fmt.Sprintf("%08b", b)
	}
	return s
}

// summed is a row with the rest behind it that a division by the polynomial leaves, as one does it on paper.
func summed(s string) string {
	const polynomial = "1100010110011001"
	row := []byte(s + strings.Repeat("0", 15))
	for i := range len(s) {
		if row[i] == '1' {
			for j := range polynomial {
				row[i+j] ^= polynomial[j] ^ '0'
			}
		}
	}
	return s + string(row[len(s):])
}

// stuffed puts a bit behind each five equal ones, by what the row ends with.
func stuffed(s string) string {
	out := ""
	for i := range len(s) {
		out += s[i : i+1]
		switch {
		case strings.HasSuffix(out, "00000"):
			out += "1"
		case strings.HasSuffix(out, "11111"):
			out += "0"
		}
	}
	return out
}

// bitsOf are all of a frame's bits: another way to them.
func bitsOf(f api.Frame) string { return stuffed(summed(headOf(f))) + "1111111111" }

// turn is a row with the bit at a place turned.
func turn(s string, at int) string {
	row := []byte(s)
	row[at] ^= 1
	return string(row)
}

// isRead, isSized and isParsed hold what a call answers.
func isRead(t *testing.T, head string, want api.Frame, e api.Errno) {
	t.Helper()
	if f, got := Read(head); f != want || got != e {
		t.Errorf("Read(%.170q) = %#v, %d; want %#v, %d", head, f, got, want, e)
	}
}

func isSized(t *testing.T, head string, want int, e api.Errno) {
	t.Helper()
	if n, got := Size(head); n != want || got != e {
		t.Errorf("Size(%.170q) = %d, %d; want %d, %d", head, n, got, want, e)
	}
}

func isParsed(t *testing.T, s string, want api.Frame, n int, e api.Errno) {
	t.Helper()
	if f, m, got := Parse(s); f != want || m != n || got != e {
		t.Errorf("Parse(%.170q) = %#v, %d, %d; want %#v, %d, %d", s, f, m, got, want, n, e)
	}
}

// P4.1

func TestRight(t *testing.T) {
	for _, f := range someFrames() {
		if !Right(f) {
			t.Errorf("%#v may be, and is told as wrong", f)
		}
	}
	for _, f := range wrongFrames() {
		if Right(f) {
			t.Errorf("%#v may not be, and is told as right", f)
		}
	}
}

func TestRightOfAllLengths(t *testing.T) {
	for dlc := -2; dlc < 20; dlc++ {
		for n := range 20 {
			f := api.Frame{Id: 5, Dlc: dlc, Data: strings.Repeat("a", n)}
			if want := dlc >= 0 && dlc <= 8 && n == dlc; Right(f) != want {
				t.Errorf("Right(%#v) = %t", f, !want)
			}
			f.Remote = true
			if want := dlc >= 0 && dlc <= 8 && n == 0; Right(f) != want {
				t.Errorf("Right(%#v) = %t", f, !want)
			}
		}
	}
}

func TestHead(t *testing.T) {
	cases := []struct {
		f    api.Frame
		want string
	}{
		{api.Frame{}, "0000000000000000000"},
		{api.Frame{Id: 5}, "0000000001010000000"},
		{api.Frame{Id: 2047}, "0111111111110000000"},
		{api.Frame{Id: 1 << 10}, "0100000000000000000"},
		{api.Frame{Id: 5, Remote: true}, "0000000001011000000"},
		{api.Frame{Id: 5, Remote: true, Dlc: 8}, "0000000001011001000"},
		{api.Frame{Id: 5, Dlc: 1, Data: "\x01"}, "000000000101000000100000001"},
		{api.Frame{Id: 5, Dlc: 2, Data: "a\x80"}, "00000000010100000100110000110000000"},
		{api.Frame{Ext: true}, "0" + "00000000000" + "11" + "000000000000000000" + "0" + "00" + "0000"},
		{api.Frame{Id: 1, Ext: true}, "0" + "00000000000" + "11" + "000000000000000001" + "0" + "00" + "0000"},
		{api.Frame{Id: 1 << 18, Ext: true}, "0" + "00000000001" + "11" + "000000000000000000" + "0" + "00" + "0000"},
		{api.Frame{Id: 1 << 17, Ext: true}, "0" + "00000000000" + "11" + "100000000000000000" + "0" + "00" + "0000"},
		{api.Frame{Id: 1 << 28, Ext: true}, "0" + "10000000000" + "11" + "000000000000000000" + "0" + "00" + "0000"},
		{api.Frame{Id: 1<<29 - 1, Ext: true, Remote: true, Dlc: 3}, "0" + "11111111111" + "11" + "111111111111111111" + "1" + "00" + "0011"},
		{api.Frame{Id: 5, Ext: true, Dlc: 1, Data: "\xFE"}, "0" + "00000000000" + "11" + "000000000000000101" + "0" + "00" + "0001" + "11111110"},
	}
	for _, c := range cases {
		if s, e := Head(c.f); s != c.want || e != api.OK {
			t.Errorf("Head(%#v) = %q, %d; want %q", c.f, s, e, c.want)
		}
	}
}

func TestHeadOfMany(t *testing.T) {
	for _, f := range someFrames() {
		if s, e := Head(f); s != headOf(f) || e != api.OK {
			t.Errorf("Head(%#v) = %q, %d; want %q", f, s, e, headOf(f))
		}
	}
}

func TestBits(t *testing.T) {
	cases := []struct {
		f    api.Frame
		want string
	}{
		// A row of `0` has the sum 0, so that all of it is one run, broken by bits that are put in.
		{api.Frame{}, strings.Repeat("000001", 6) + "0000" + "1111111111"},
		{api.Frame{Id: 5}, "00000100001010000010011011111010001101111111111"},
		{api.Frame{Id: 0x555}, "010101010101000001001100111010011001111111111"},
		{api.Frame{Id: 0x14, Dlc: 1, Data: "\x01"}, "0000010010100000100010000010011110111010100111111111111"},
		// None is put in here.
		{api.Frame{Id: 0x2AA, Remote: true, Dlc: 5}, "00101010101010001010101110111100001111111111"},
		{api.Frame{Id: 1 << 28, Ext: true, Dlc: 2, Data: "ab"}, "01000001000001110000010000010000010000010001001100001011000100111001000100101111111111"},
		{api.Frame{Id: 1<<29 - 1, Ext: true, Remote: true, Dlc: 8}, "01111101111101111101111101111101111101100100000111011010010101111111111"},
	}
	for _, c := range cases {
		if s, e := Bits(c.f); s != c.want || e != api.OK {
			t.Errorf("Bits(%#v) = %q, %d; want %q", c.f, s, e, c.want)
		}
	}
	for _, f := range someFrames() {
		if s, e := Bits(f); s != bitsOf(f) || e != api.OK {
			t.Errorf("Bits(%#v) = %q, %d; want %q", f, s, e, bitsOf(f))
		}
	}
}

func TestHeadAndBitsWrong(t *testing.T) {
	for _, f := range wrongFrames() {
		if s, e := Head(f); s != "" || e != api.ErrArg {
			t.Errorf("Head(%#v) = %q, %d; want ErrArg", f, s, e)
		}
		if s, e := Bits(f); s != "" || e != api.ErrArg {
			t.Errorf("Bits(%#v) = %q, %d; want ErrArg", f, s, e)
		}
	}
}

// P4.2

func TestSize(t *testing.T) {
	// Whatever its other bits are: the size hangs on Dlc, on R, and on whether it is Ext.
	for _, fill := range []string{"0", "1"} {
		for dlc := range 16 {
			for _, r := range []string{"0", "1"} {
				more, e := 8*dlc, api.OK
				if r == "1" {
					more = 0
				}
				short := strings.Repeat(fill, 12) + r + "0" + fill + fmt.Sprintf("%04b", dlc)
				long := strings.Repeat(fill, 13) + "1" + strings.Repeat(fill, 18) + r + fill + fill + fmt.Sprintf("%04b", dlc)
				want := []int{19 + more, 39 + more}
				// Even one that asks for data may not ask for more than 8 bytes.
				if dlc > 8 {
					want, e = []int{0, 0}, api.ErrForm
				}
				for _, behind := range []string{"", "0", "1", strings.Repeat("10", 60), strings.Repeat("1", 3900)} {
					isSized(t, short+behind, want[0], e)
					isSized(t, long+behind, want[1], e)
				}
			}
		}
	}
}

func TestSizeOfHeads(t *testing.T) {
	for _, f := range someFrames() {
		s, least := headOf(f), 19
		if f.Ext {
			least = 39
		}
		for n := range len(s) + 1 {
			if n < least {
				isSized(t, s[:n], 0, api.ErrShort)
			} else {
				isSized(t, s[:n], len(s), api.OK)
			}
		}
	}
}

func TestSizeShort(t *testing.T) {
	for n := range 39 {
		isSized(t, strings.Repeat("1", n), 0, api.ErrShort)
		if n < 19 {
			isSized(t, strings.Repeat("0", n), 0, api.ErrShort)
			isSized(t, strings.Repeat("01", 20)[:n], 0, api.ErrShort)
		}
	}
	isSized(t, strings.Repeat("1", 39), 0, api.ErrForm)
	isSized(t, strings.Repeat("0", 19), 19, api.OK)
	// With 18 bits Dlc is not told yet, even if it can't be right any more.
	isSized(t, strings.Repeat("0", 15)+"111", 0, api.ErrShort)
	isSized(t, strings.Repeat("0", 15)+"1000", 19+64, api.OK)
	isSized(t, strings.Repeat("0", 15)+"1001", 0, api.ErrForm)
	isSized(t, strings.Repeat("0", 13)+"1"+strings.Repeat("0", 21)+"111", 0, api.ErrShort)
	isSized(t, strings.Repeat("0", 13)+"1"+strings.Repeat("0", 21)+"1000", 39+64, api.OK)
	isSized(t, strings.Repeat("0", 13)+"1"+strings.Repeat("0", 21)+"1001", 0, api.ErrForm)
}

func TestSizeAndReadWrong(t *testing.T) {
	for _, s := range wrongRows() {
		isSized(t, s, 0, api.ErrArg)
		isRead(t, s, api.Frame{}, api.ErrForm)
	}
}

func TestRead(t *testing.T) {
	for _, f := range someFrames() {
		isRead(t, headOf(f), f, api.OK)
	}
}

func TestReadOfNoHead(t *testing.T) {
	for _, s := range []string{"", "0", "1", strings.Repeat("0", 13), strings.Repeat("0", 18), strings.Repeat("1", 19), strings.Repeat("1", 39), strings.Repeat("0", 4000), strings.Repeat("1", 4000)} {
		isRead(t, s, api.Frame{}, api.ErrForm)
	}
	for _, f := range someFrames() {
		s := headOf(f)
		for _, row := range []string{s + "0", s + "1", s + "00000000", s[:len(s)-1], turn(s, 0)} {
			isRead(t, row, api.Frame{}, api.ErrForm)
		}
	}
}

func TestReadOfBitsThatStandFast(t *testing.T) {
	for _, f := range someFrames() {
		fast := []int{0, 14}
		if f.Ext {
			fast = []int{0, 12, 33, 34}
		}
		for _, at := range fast {
			isRead(t, turn(headOf(f), at), api.Frame{}, api.ErrForm)
		}
	}
}

// Any row is the head of one frame, or of none.
func TestReadOfAnyRow(t *testing.T) {
	var c chance
	good := 0
	for range 20000 {
		s := headOf(c.frame())
		for range c.below(3) {
			s = turn(s, int(c.below(uint32(len(s)))))
		}
		f, e := Read(s)
		switch {
		case e == api.OK && Right(f) && headOf(f) == s:
			good++
		case e != api.ErrForm || f != api.Frame{}:
			t.Errorf("Read(%q) = %#v, %d", s, f, e)
		}
	}
	if good < 10000 {
		t.Errorf("only %d heads were read", good)
	}
}

// P4.3

// parsed is what a row tells, found from its errors' places, not bit by bit: another way to what Parse answers.
func parsed(s string) (api.Frame, int, api.Errno) {
	data, at, bad := plain(s)
	switch size, e := Size(data); {
	case s != "" && s[0] == '1':
		return api.Frame{}, 0, api.ErrForm
	// As soon as Dlc is known, what stands behind it counts no more.
	case e == api.ErrForm:
		return api.Frame{}, 0, api.ErrForm
	case e != api.OK || len(data) < size+15:
		return api.Frame{}, 0, bad
	default:
		end := at[size+14] + 1
		if strings.HasSuffix(s[:end], "00000") || strings.HasSuffix(s[:end], "11111") {
			if end >= len(s) {
				return api.Frame{}, 0, api.ErrShort
			}
			if s[end] == s[end-1] {
				return api.Frame{}, 0, api.ErrStuff
			}
			end++
		}
		return closed(s, end, data[:size+15])
	}
}

// plain are a row's bits without the stuffed ones, where they stand, and the error that ends them.
func plain(s string) (string, []int, api.Errno) {
	var data string
	var at []int
	for i := range len(s) {
		if i >= 5 && (s[i-5:i] == "00000" || s[i-5:i] == "11111") {
			if s[i] == s[i-1] {
				return data, at, api.ErrStuff
			}
			continue
		}
		data, at = data+s[i:i+1], append(at, i)
	}
	return data, at, api.ErrShort
}

// closed is what a row tells whose head and sum end there.
func closed(s string, end int, sum string) (api.Frame, int, api.Errno) {
	head := sum[:len(sum)-15]
	if summed(head) != sum {
		return api.Frame{}, 0, api.ErrCrc
	}
	for i := range 10 {
		if end+i >= len(s) {
			return api.Frame{}, 0, api.ErrShort
		}
		if s[end+i] == '0' && i != 1 {
			return api.Frame{}, 0, api.ErrForm
		}
	}
	f, e := Read(head)
	if e != api.OK {
		return api.Frame{}, 0, e
	}
	return f, end + 10, api.OK
}

func TestParse(t *testing.T) {
	for _, f := range someFrames() {
		s := bitsOf(f)
		isParsed(t, s, f, len(s), api.OK)
	}
}

func TestParseWrong(t *testing.T) {
	for _, s := range wrongRows() {
		isParsed(t, s, api.Frame{}, 0, api.ErrArg)
	}
	// What stands behind the frame must be right, too, and not too long.
	s := bitsOf(api.Frame{Id: 5})
	for _, behind := range []string{"2", "01x", strings.Repeat("1", api.MaxBits-len(s)) + "1"} {
		isParsed(t, s+behind, api.Frame{}, 0, api.ErrArg)
	}
	isParsed(t, s+strings.Repeat("1", api.MaxBits-len(s)), api.Frame{Id: 5}, len(s), api.OK)
}

func TestParseStart(t *testing.T) {
	for _, s := range []string{"1", "10", "11", "111111", "1000000", "1" + bitsOf(api.Frame{Id: 5}), turn(bitsOf(api.Frame{Id: 5}), 0), strings.Repeat("1", 4000)} {
		isParsed(t, s, api.Frame{}, 0, api.ErrForm)
	}
	isParsed(t, "", api.Frame{}, 0, api.ErrShort)
	isParsed(t, "0", api.Frame{}, 0, api.ErrShort)
}

func TestParseShort(t *testing.T) {
	for _, f := range someFrames() {
		s := bitsOf(f)
		for n := range s {
			isParsed(t, s[:n], api.Frame{}, 0, api.ErrShort)
		}
	}
}

func TestParseStuff(t *testing.T) {
	for _, s := range []string{"000000", "0111111", "01000000", "0000000000", strings.Repeat("0", 4000), "01010101000000", "0" + strings.Repeat("1", 3999)} {
		isParsed(t, s, api.Frame{}, 0, api.ErrStuff)
	}
	// A bit that is put in, turned, is the sixth equal one: at just this place, in the head, the sum, and right behind it.
	behind := 0
	for _, f := range someFrames() {
		s := bitsOf(f)
		end := len(s) - 10
		for i := 5; i < end; i++ {
			if five := s[i-5 : i]; five != "00000" && five != "11111" {
				continue
			}
			isParsed(t, s[:i], api.Frame{}, 0, api.ErrShort)
			isParsed(t, turn(s[:i+1], i), api.Frame{}, 0, api.ErrStuff)
			isParsed(t, turn(s, i), api.Frame{}, 0, api.ErrStuff)
			if i == end-1 {
				behind++
			}
		}
	}
	if behind == 0 {
		t.Error("no frame has a bit that is put in behind its sum")
	}
}

func TestParseDlc(t *testing.T) {
	// Nothing is read behind a Dlc that is too high, not even whether its last bit is the fifth equal one.
	for dlc := 9; dlc < 16; dlc++ {
		low := fmt.Sprintf("%04b", dlc)
		for _, head := range []string{
			"0" + "01010101010" + "000" + low,
			"0" + "01010101010" + "100" + low,
			"0" + "01010101010" + "11" + "010101010101010101" + "000" + low,
			"0" + "01010101010" + "11" + "010101010101010101" + "100" + low,
			"0" + "01010101010" + "11" + "010101010101010101" + "011" + low,
		} {
			s := stuffed(head[:len(head)-1]) + head[len(head)-1:]
			isParsed(t, s, api.Frame{}, 0, api.ErrForm)
			isParsed(t, s[:len(s)-1], api.Frame{}, 0, api.ErrShort)
			isParsed(t, s+"0", api.Frame{}, 0, api.ErrForm)
			isParsed(t, s+"1", api.Frame{}, 0, api.ErrForm)
			isParsed(t, s+strings.Repeat("1", 200), api.Frame{}, 0, api.ErrForm)
			isParsed(t, s+strings.Repeat("0", 200), api.Frame{}, 0, api.ErrForm)
		}
	}
}

func TestParseCrc(t *testing.T) {
	full := 0
	for _, f := range someFrames() {
		sum := summed(headOf(f))
		for i := range 15 {
			row := turn(sum, len(sum)-1-i)
			s := stuffed(row)
			isParsed(t, s, api.Frame{}, 0, api.ErrCrc)
			isParsed(t, s+"1111111111", api.Frame{}, 0, api.ErrCrc)
			// It is told ahead of what is wrong behind the sum, but not ahead of its last bit.
			isParsed(t, s+"0", api.Frame{}, 0, api.ErrCrc)
			isParsed(t, s[:len(s)-1], api.Frame{}, 0, api.ErrShort)
			if last := s[len(s)-6 : len(s)-1]; last == "00000" || last == "11111" {
				full++
				isParsed(t, turn(s, len(s)-1), api.Frame{}, 0, api.ErrStuff)
			}
		}
		// A bit of the head that changes neither its size nor what is told as soon as it is read.
		isParsed(t, stuffed(turn(sum, 5))+"1111111111", api.Frame{}, 0, api.ErrCrc)
	}
	if full == 0 {
		t.Error("no wrong sum has a bit that is put in behind it")
	}
}

func TestParseTail(t *testing.T) {
	for _, f := range someFrames() {
		s := bitsOf(f)
		end := len(s) - 10
		for i := range 10 {
			row := turn(s, end+i)
			if i == 1 {
				isParsed(t, row, f, len(s), api.OK)
				continue
			}
			isParsed(t, row, api.Frame{}, 0, api.ErrForm)
			isParsed(t, row[:end+i+1], api.Frame{}, 0, api.ErrForm)
			isParsed(t, row[:end+i], api.Frame{}, 0, api.ErrShort)
			isParsed(t, turn(row, end+1), api.Frame{}, 0, api.ErrForm)
		}
	}
}

// A frame whose bits that stand fast are others is none, which is told last.
func TestParseOfNoFrame(t *testing.T) {
	for _, f := range someFrames() {
		fast := []int{14}
		if f.Ext {
			fast = []int{12, 33, 34}
		}
		for _, at := range fast {
			head := turn(headOf(f), at)
			s := stuffed(summed(head)) + "1111111111"
			isParsed(t, s, api.Frame{}, 0, api.ErrForm)
			isParsed(t, s[:len(s)-1], api.Frame{}, 0, api.ErrShort)
			isParsed(t, stuffed(turn(summed(head), len(head))), api.Frame{}, 0, api.ErrCrc)
		}
	}
}

func TestParseOfAnyRow(t *testing.T) {
	var c chance
	told := map[api.Errno]int{}
	try := func(s string) {
		f, n, e := parsed(s)
		told[e]++
		isParsed(t, s, f, n, e)
	}
	for range 20000 {
		row := summed(headOf(c.frame()))
		for range c.below(3) {
			row = turn(row, int(c.below(uint32(len(row)))))
		}
		s := stuffed(row) + "1111111111" + stuffed(row)
		for range c.below(3) {
			s = turn(s, int(c.below(uint32(len(s)))))
		}
		try(s)
		try(s[:c.below(uint32(len(s)))])
	}
	for _, e := range []api.Errno{api.OK, api.ErrShort, api.ErrStuff, api.ErrCrc, api.ErrForm} {
		if told[e] < 500 {
			t.Errorf("error %d was told only %d times", e, told[e])
		}
	}
}

// P4.4

func TestFramesAndTheirBitsLeadToOneAnother(t *testing.T) {
	var c chance
	frames := someFrames()
	for range 3000 {
		frames = append(frames, c.frame())
	}
	for _, f := range frames {
		s, e := Bits(f)
		if e != api.OK || len(s) < 44 || len(s) > 160 {
			t.Errorf("Bits(%#v) = %q, %d", f, s, e)
			continue
		}
		told := turn(s, len(s)-9)
		for _, behind := range []string{"", "0", "1", "111", "000000", strings.Repeat("0", 4000-len(s)), s, bitsOf(c.frame())} {
			isParsed(t, s+behind, f, len(s), api.OK)
			isParsed(t, told+behind, f, len(s), api.OK)
		}
	}
}

func TestLengthOfFrames(t *testing.T) {
	for _, c := range []struct {
		f    api.Frame
		bits int
	}{
		// The shortest there is, and one that needs nearly as many stuffed bits as may be.
		{api.Frame{Id: 0x2AA, Remote: true, Dlc: 5}, 44},
		{api.Frame{Id: 0x1F8307FE, Ext: true, Dlc: 8, Data: "\x3F\xFF\xF8\x78\x00\x00\xF0\x02"}, 151},
	} {
		s, e := Bits(c.f)
		if len(s) != c.bits || e != api.OK {
			t.Errorf("Bits(%#v) = %d bits, %d; want %d", c.f, len(s), e, c.bits)
		}
		isParsed(t, s, c.f, c.bits, api.OK)
	}
}

// Bits that are read as a frame are those that it is written as, but for the one where it is told that it came.
func TestBitsThatAreParsedAreTheFrames(t *testing.T) {
	var c chance
	for range 5000 {
		s := bitsOf(c.frame())
		for range c.below(3) {
			s = turn(s, int(c.below(uint32(len(s)))))
		}
		f, n, e := Parse(s)
		if e != api.OK {
			continue
		}
		own, e := Bits(f)
		if e != api.OK || n != len(own) || own[:n-9] != s[:n-9] || own[n-8:] != s[n-8:n] {
			t.Errorf("Parse(%q) = %#v, %d; its bits are %q", s, f, n, own)
		}
	}
}

// R1: a second call answers the same.

func TestNothingIsKept(t *testing.T) {
	f := api.Frame{Id: 5, Dlc: 2, Data: "ab"}
	s := bitsOf(f)
	var answers [][]any
	for range 2 {
		var l []any
		keep := func(x ...any) { l = append(l, x...) }
		row, e := Head(f)
		keep(row, e)
		row, e = Head(api.Frame{Id: 1 << 11})
		keep(row, e)
		row, e = Bits(f)
		keep(row, e)
		n, e := Size(headOf(f))
		keep(n, e)
		g, e := Read(headOf(f))
		keep(g, e)
		g, e = Read("0")
		keep(g, e)
		g, n, e = Parse(s)
		keep(g, n, e)
		g, n, e = Parse(s[:20])
		keep(g, n, e)
		answers = append(answers, l)
	}
	if !slices.Equal(answers[0], answers[1]) {
		t.Error(answers)
	}
}

// P1: no call panics, whatever it is given; a panic here ends the test.

func FuzzNoCallPanics(f *testing.F) {
	f.Add("", uint32(0), false, false, 0, "")
	f.Add("0000000001010000000", uint32(5), true, true, 8, "12345678")
	f.Add(bitsOf(api.Frame{Id: 5}), uint32(1<<11), false, false, 9, "123456789")
	f.Add(bitsOf(api.Frame{Id: 1 << 28, Ext: true, Dlc: 1, Data: "a"}), uint32(1<<29), true, false, -1, "a")
	f.Add(strings.Repeat("0", 13)+"1", uint32(math.MaxUint32), true, false, math.MaxInt, "é")
	f.Add(strings.Repeat("01", 2000), uint32(0), false, true, math.MinInt, "\x00")
	f.Add(strings.Repeat("1", 4001), uint32(1), false, false, 1, "\xff")
	f.Add("01x", uint32(1), false, false, 256, "\xff")
	f.Fuzz(func(t *testing.T, s string, id uint32, ext, remote bool, dlc int, data string) {
		g := api.Frame{Id: id, Ext: ext, Remote: remote, Dlc: dlc, Data: data}
		row, e := Bits(g)
		if Right(g) != (e == api.OK) {
			t.Errorf("Bits(%#v) = %q, %d", g, row, e)
		}
		if e == api.OK {
			isParsed(t, row, g, len(row), api.OK)
		}
		Head(g)
		Size(s)
		Read(s)
		if h, n, e := Parse(s); e == api.OK && (!Right(h) || n < 44 || n > 160) {
			t.Errorf("Parse(%q) = %#v, %d", s, h, n)
		}
	})
}
