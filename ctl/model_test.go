package ctl

import (
	"fmt"
	"math"
	"strings"
	"testing"

	"campanile/api"
	"campanile/frame"
)

// someFrames holds frames that may be, the edges among them, and such that many bits of them are stuffed.
func someFrames() []api.Frame {
	return []api.Frame{
		{Id: 5}, {}, {Id: 0x7FF}, {Id: 0x555}, {Id: 0x41F}, {Id: 0x3E0}, {Id: 0x7C1, Remote: true, Dlc: 8},
		{Remote: true}, {Id: 0x7FF, Remote: true, Dlc: 8}, {Id: 0x7EF, Remote: true, Dlc: 1},
		{Id: 5, Dlc: 1, Data: "x"}, {Id: 0x123, Dlc: 8, Data: "12345678"}, {Dlc: 8, Data: strings.Repeat("\x00", 8)},
		{Id: 0x7FF, Dlc: 8, Data: strings.Repeat("\xFF", 8)}, {Id: 0x78, Dlc: 4, Data: "\x0F\x83\xE0\xF8"},
		{Id: 5, Ext: true}, {Ext: true}, {Id: 1<<29 - 1, Ext: true}, {Id: 0x15555555, Ext: true, Dlc: 2, Data: "ab"},
		{Ext: true, Remote: true}, {Id: 1<<29 - 1, Ext: true, Remote: true, Dlc: 8}, {Id: 0x7FF << 18, Ext: true, Dlc: 1, Data: "\x00"},
		{Ext: true, Dlc: 8, Data: strings.Repeat("\x00", 8)}, {Id: 1<<29 - 1, Ext: true, Dlc: 8, Data: strings.Repeat("\xFF", 8)},
		{Id: 0x78F83E0, Ext: true, Dlc: 3, Data: "\x1F\x07\xC1"}, {Id: 0x1F07C1F, Ext: true, Remote: true, Dlc: 3},
		// Behind the sums of these stands a bit that is stuffed: of each kind one.
		stuffedLast('0'), stuffedLast('1'),
	}
}

// stuffedLast is a frame behind whose sum a bit of that kind is stuffed.
func stuffedLast(bit byte) api.Frame {
	for id := range uint32(1 << 11) {
		f := api.Frame{Id: id}
		row := bitsOf(f)
		row = row[:len(row)-10]
		if row[len(row)-1] == bit && run(row[:len(row)-1]) == 5 {
			return f
		}
	}
	panic("none")
}

// wrongFrames holds frames that may not be.
func wrongFrames() []api.Frame {
	return []api.Frame{
		{Id: 1 << 11}, {Id: math.MaxUint32}, {Id: 1 << 29, Ext: true}, {Dlc: 9, Data: "123456789"}, {Dlc: -1},
		{Dlc: 1}, {Data: "a"}, {Remote: true, Dlc: 1, Data: "a"}, {Remote: true, Dlc: 9}, {Dlc: math.MaxInt}, {Dlc: math.MinInt, Remote: true},
	}
}

// headOf is a head, written by the library: another way to it.
func headOf(f api.Frame) string {
	r := 0
	if f.Remote {
		r = 1
	}
	s := fmt.Sprintf("0%011b%d00%04b", f.Id, r, f.Dlc)
	if f.Ext {
		id := fmt.Sprintf("%029b", f.Id)
		s = fmt.Sprintf("0%s11%s%d00%04b", id[:11], id[11:], r, f.Dlc)
	}
	for _, b := range []byte(f.Data) {
		s += fmt.Sprintf("%08b", b)
	}
	return s
}

// summed is a row with the rest behind it that a division by the polynomial leaves, as one does it on paper.
func summed(s string) string {
	const polynomial = "1100010110011001"
	row := []byte(s + strings.Repeat("0", 15))
	for i := range len(s) {
		if row[i] == '1' {
			for j := range polynomial {
				row[i+j] ^= polynomial[j] ^ '0'
			}
		}
	}
	return s + string(row[len(s):])
}

// run is how many equal bits a row ends with.
func run(row string) int {
	if row == "" {
		return 0
	}
	return len(row) - len(strings.TrimRight(row, row[len(row)-1:]))
}

// stuffed puts a bit behind each five equal ones.
func stuffed(s string) string {
	out := ""
	for i := range len(s) {
		out += s[i : i+1]
		if run(out) == 5 {
			out += map[byte]string{'0': "1", '1': "0"}[s[i]]
		}
	}
	return out
}

// bitsOf are a frame's bits.
func bitsOf(f api.Frame) string { return stuffed(summed(headOf(f))) + "1111111111" }

// told is a row of a bus on which another one tells that the frame came.
func told(row string) string { return row[:len(row)-9] + "0" + row[len(row)-8:] }

// plain is a row without the bits behind five equal ones.
func plain(row string) string {
	var out []byte
	for i := range len(row) {
		if run(row[:i]) != 5 {
			out = append(out, row[i])
		}
	}
	return string(out)
}

// sizes are how many bits the head of a row without stuffed ones has, what its Dlc is, and whether it is there up to that.
func sizes(got string) (size, dlc int, known bool) {
	if len(got) < 14 {
		return 0, 0, false
	}
	size, remote := 19, 12
	if got[13] == '1' {
		size, remote = 39, 32
	}
	if len(got) < size {
		return 0, 0, false
	}
	for _, bit := range got[size-4 : size] {
		dlc = dlc*2 + int(bit-'0')
	}
	if got[remote] == '0' {
		size += 8 * dlc
	}
	return size, dlc, true
}

// endOf is where the sum of a row ends, with what is stuffed behind it: 0, if that is not there.
func endOf(row string) int {
	size, _, known := sizes(plain(row))
	if !known {
		return 0
	}
	for k := size + 15; k <= len(row); k++ {
		if len(plain(row[:k])) == size+15 && run(row[:k]) < 5 {
			return k
		}
	}
	return 0
}

// isFrame tells whether bits that are not stuffed are a frame's, up to its sum.
func isFrame(got string) bool {
	size, dlc, known := sizes(got)
	if !known || dlc > 8 || len(got) != size+15 || summed(got[:size]) != got {
		return false
	}
	if got[13] == '0' {
		return got[14] == '0'
	}
	return got[12] == '1' && got[33:35] == "00"
}

// behind is a controller that has begun a frame, behind some bits of it that are no errors.
func behind(c api.Ctl, row string) api.Ctl {
	c.State, c.N = api.SFrame, 0
	up := row
	c.End, c.Tail, c.Good, c.Out, c.At = false, 0, false, "", 0
	if end := endOf(row); end > 0 {
		up = row[:end]
		c.End, c.Tail, c.Good = true, len(row)-end, isFrame(plain(up))
	}
	c.Got = plain(up)
	c.Stuff = api.Stuffer{Last: up[len(up)-1], N: run(up)}
	if c.Sends {
		c.Out, c.At = bitsOf(c.Frame), len(row)
	}
	return c
}

// sending is one that sends a frame, behind so many bits of it.
func sending(f api.Frame, k int) api.Ctl {
	c := api.Ctl{Has: true, Frame: f, Sends: true, Was: true}
	return behind(c, bitsOf(f)[:k])
}

// in is a controller in another state.
func in(c api.Ctl, state, n int) api.Ctl {
	return api.Ctl{Count: c.Count, State: state, N: n, Was: c.Was, Hard: c.Hard, Has: c.Has, Frame: c.Frame}
}

// hard has a controller's flag be dominant, or not.
func hard(c api.Ctl, on bool) api.Ctl {
	c.Hard = on
	return c
}

// countsErrors counts errors: so many in sending, so many in receiving.
func countsErrors(c api.Ctl, tec, rec int) api.Ctl {
	c.Count.Tec += tec
	c.Count.Rec = min(c.Count.Rec+rec, 255)
	if c.Count.Tec > 255 {
		c = in(c, api.SOff, 0)
		c.Count = api.Count{Off: true, Rest: 128}
	}
	return c
}

// isPassive tells whether it counted many errors.
func isPassive(c api.Ctl) bool { return c.Count.Tec >= 128 || c.Count.Rec >= 128 }

// failed is a controller in a frame behind an error, with that.
func failed(c api.Ctl, bad api.Errno) (api.Ctl, api.Event) {
	d := in(c, api.SFlag, 0)
	d.Was = c.Sends
	switch {
	case bad == api.ErrAck && isPassive(c):
	case c.Sends:
		d = countsErrors(d, 8, 0)
	default:
		d = countsErrors(d, 0, 1)
	}
	if d.State == api.SFlag {
		d.Hard = !isPassive(d)
	}
	return d, api.Event{Kind: api.VError, Bad: bad}
}

// next is what a controller in a frame becomes by a bit, behind those that it had: found from all of these, not from what it knows.
func next(c api.Ctl, had string, bit byte) (api.Ctl, api.Event) {
	row := had + string(rune(bit))
	if c.End {
		return nextBehindEnd(c, row, bit)
	}
	var v api.Event
	if c.Sends && bitsOf(c.Frame)[len(had)] != bit {
		field := 13
		if c.Frame.Ext {
			field = 32
		}
		if bit == '1' || run(had) == 5 || len(plain(had)) > field {
			return failed(c, api.ErrBit)
		}
		v.Kind = api.VLost
		c.Sends, c.Was = false, false
	}
	if run(row) > 5 {
		return failed(c, api.ErrStuff)
	}
	if _, dlc, _ := sizes(plain(row)); dlc > 8 {
		return failed(c, api.ErrForm)
	}
	return behind(c, row), v
}

func nextBehindEnd(c api.Ctl, row string, bit byte) (api.Ctl, api.Event) {
	bad := map[bool][10]api.Errno{
		false: {12, 0, 12, 12, 12, 12, 12, 12, 12, 0}, true: {12, 0, 12, 12, 12, 12, 12, 12, 12, 12},
	}[c.Sends][c.Tail]
	if bit == '1' {
		bad = api.OK
		if c.Tail == 1 && c.Sends {
			bad = api.ErrAck
		}
		if c.Tail == 2 && !c.Good {
			bad = api.ErrCrc
		}
	}
	switch {
	case bad != api.OK:
		return failed(c, bad)
	case c.Tail == 9 && bit == '0':
		return hard(in(c, api.SFlag, 0), true), api.Event{}
	case c.Tail == 9 && c.Sends:
		d := in(c, api.SGap, 0)
		d.Has, d.Frame = false, api.Frame{}
		d.Count.Tec = max(d.Count.Tec-1, 0)
		return d, api.Event{Kind: api.VSent, Frame: c.Frame}
	case c.Tail == 9:
		return in(c, api.SGap, 0), api.Event{}
	case c.Tail == 8 && !c.Sends:
		d := behind(c, row)
		d.Count.Rec = max(d.Count.Rec-1, 0)
		if c.Count.Rec > 127 {
			d.Count.Rec = 119
		}
		f, _ := frame.Read(c.Got[:len(c.Got)-15])
		return d, api.Event{Kind: api.VCame, Frame: f}
	}
	return behind(c, row), api.Event{}
}

// someCounts holds counts that are not off, at the edges of what makes them passive, and off.
func someCounts() []api.Count {
	return []api.Count{
		{}, {Tec: 1, Rec: 1}, {Tec: 119, Rec: 126}, {Tec: 120, Rec: 119}, {Tec: 127, Rec: 120}, {Tec: 127, Rec: 127}, {Tec: 128}, {Rec: 128},
		{Tec: 247}, {Tec: 248, Rec: 254}, {Tec: 255, Rec: 255}, {Rec: 248}, {Tec: 8, Rec: 255},
	}
}

// all hands on a controller in each of its counts (those that are not off), with each Was and Hard, and with a frame to send and without.
func all(c api.Ctl, see func(c api.Ctl)) {
	counts := someCounts()
	if c.State == api.SOff {
		counts = []api.Count{{Off: true, Rest: 1}, {Off: true, Rest: 2}, {Off: true, Rest: 128}}
	}
	for _, c.Count = range counts {
		for i := range 8 {
			c.Was, c.Hard, c.Has, c.Frame = i&1 > 0, i&2 > 0, i&4 > 0, api.Frame{}
			if c.Has {
				c.Frame = api.Frame{Id: 0x123, Dlc: 2, Data: "ab"}
			}
			see(c)
		}
	}
}

// places has, for all states but SFrame, the lowest and the highest N.
func places() map[int][2]int {
	return map[int][2]int{
		api.SJoin: {0, 10}, api.SIdle: {0, 0}, api.SFlag: {0, 5}, api.SEcho: {0, 1000000000},
		api.SDelim: {1, 7}, api.SGap: {0, 2}, api.SHold: {0, 7}, api.SOff: {0, 10},
	}
}

// someControllers hands on controllers of all states, and those that send a frame and those that listen, behind some bits of it.
func someControllers(see func(c api.Ctl)) {
	for state, span := range places() {
		for n := span[0]; n <= min(span[1], 17); n++ {
			all(api.Ctl{State: state, N: n}, see)
		}
		all(api.Ctl{State: state, N: span[1]}, see)
	}
	for _, f := range someFrames() {
		row := bitsOf(f)
		for k := 1; k < len(row); k++ {
			see(sending(f, k))
			see(behind(api.Ctl{}, row[:k]))
		}
	}
}

// isRight holds whether a controller may be.
func isRight(t *testing.T, c api.Ctl, want bool) {
	t.Helper()
	if Right(c) != want {
		t.Fatalf("Right(%+v) = %v", c, !want)
	}
}

// isSample holds what Sample answers.
func isSample(t *testing.T, c api.Ctl, bit byte, want api.Ctl, v api.Event) {
	t.Helper()
	if got, v2, e := Sample(c, bit); got != want || v2 != v || e != api.OK {
		t.Fatalf("Sample(%+v, %c) = %+v, %+v, %d;\nwant %+v, %+v", c, bit, got, v2, e, want, v)
	}
}

// isQuiet holds what Sample answers where nothing happened.
func isQuiet(t *testing.T, c api.Ctl, bit byte, want api.Ctl) {
	t.Helper()
	isSample(t, c, bit, want, api.Event{})
}

// isDrive holds what Drive answers.
func isDrive(t *testing.T, c api.Ctl, want byte) {
	t.Helper()
	if got, e := Drive(c); got != want || e != api.OK {
		t.Fatalf("Drive(%+v) = %c, %d; want %c", c, got, e, want)
	}
}

// fed is a controller behind some bits, and what happened at them.
func fed(t *testing.T, c api.Ctl, row string) (api.Ctl, []api.Event) {
	t.Helper()
	l := make([]api.Event, len(row))
	for i := range len(row) {
		next, v, e := Sample(c, row[i])
		if e != api.OK || !Right(next) {
			t.Fatalf("Sample(%+v, %c) = %+v, %+v, %d", c, row[i], next, v, e)
		}
		c, l[i] = next, v
	}
	return c, l
}

// idle is a controller behind eleven recessive bits, with a frame to send, if there is one.
func idle(t *testing.T, fs ...api.Frame) api.Ctl {
	t.Helper()
	c, _ := fed(t, New(), strings.Repeat("1", 11))
	for _, f := range fs {
		c = submitted(t, c, f)
	}
	return c
}

func submitted(t *testing.T, c api.Ctl, f api.Frame) api.Ctl {
	t.Helper()
	d, e := Submit(c, f)
	if e != api.OK {
		t.Fatalf("Submit(%+v, %+v): %d", c, f, e)
	}
	return d
}
