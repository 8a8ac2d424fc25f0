package ctl

import (
	"math"
	"strings"
	"testing"

	"campanile/api"
)

// P7.1

func TestNew(t *testing.T) {
	if c := New(); c != (api.Ctl{State: api.SJoin}) {
		t.Errorf("%+v", c)
	}
	isRight(t, New(), true)
}

func TestRight(t *testing.T) {
	someControllers(func(c api.Ctl) { isRight(t, c, true) })
}

func TestRightByState(t *testing.T) {
	ns := []int{-1, -8, math.MinInt, 8, 11, 12, 999999999, 1000000000, 1000000001, 1 << 40, math.MaxInt, 1 << 32}
	for n := range 12 {
		ns = append(ns, n)
	}
	for _, state := range []int{-1, 0, 1, 3, 4, 5, 6, 7, 8, 9, 10, 1 << 32, math.MaxInt, math.MinInt} {
		span, may := places()[state]
		for _, n := range ns {
			c := api.Ctl{State: state, N: n}
			isRight(t, c, may && state != api.SOff && n >= span[0] && n <= span[1])
			c.Count = api.Count{Off: true, Rest: 5}
			isRight(t, c, state == api.SOff && n >= span[0] && n <= span[1])
		}
	}
}

func TestRightByCount(t *testing.T) {
	wrong := []api.Count{
		{Tec: -1}, {Rec: -1}, {Tec: 256}, {Rec: 256}, {Rest: 1}, {Off: true}, {Off: true, Rest: 129}, {Off: true, Tec: 1, Rest: 5}, {Tec: math.MaxInt},
	}
	someControllers(func(c api.Ctl) {
		for _, c.Count = range wrong {
			isRight(t, c, false)
		}
		c.Count = api.Count{Off: true, Rest: 128}
		isRight(t, c, c.State == api.SOff)
		c.Count = api.Count{}
		isRight(t, c, c.State != api.SOff)
	})
}

func TestRightByFrame(t *testing.T) {
	someControllers(func(c api.Ctl) {
		// A frame that is all zero is one, too.
		d := c
		d.Has = !c.Has
		isRight(t, d, !c.Sends && d.Frame == api.Frame{})
		for _, f := range wrongFrames() {
			d = c
			d.Frame = f
			isRight(t, d, false)
			d.Has = true
			isRight(t, d, false)
		}
		for _, f := range []api.Frame{{Id: 1}, {Ext: true}, {Remote: true}, {Dlc: 1}, {Data: "a"}} {
			d = c
			d.Has, d.Sends, d.Frame = false, false, f
			isRight(t, d, false)
		}
	})
}

// changed hands on a controller with each part of SFrame changed, alone.
func changed(c api.Ctl, see func(what string, c api.Ctl)) {
	change := func(what string, by func(d *api.Ctl)) {
		d := c
		by(&d)
		see(what, d)
	}
	change("Sends", func(d *api.Ctl) { d.Sends = !d.Sends })
	change("Out", func(d *api.Ctl) { d.Out += "1" })
	change("Out", func(d *api.Ctl) { d.Out = d.Out[:max(len(d.Out)-1, 0)] + "0" })
	change("At", func(d *api.Ctl) { d.At++ })
	change("At", func(d *api.Ctl) { d.At-- })
	change("At", func(d *api.Ctl) { d.At = math.MaxInt })
	change("At", func(d *api.Ctl) { d.At = math.MinInt })
	change("End", func(d *api.Ctl) { d.End = !d.End })
	change("Good", func(d *api.Ctl) { d.Good = !d.Good })
	for _, n := range []int{-1, 10, 11, math.MaxInt, math.MinInt} {
		change("Tail", func(d *api.Ctl) { d.Tail = n })
	}
	for _, x := range []api.Stuffer{{Last: '2', N: 1}, {Last: '0', N: 6}, {Last: '1', N: -1}, {Last: '1'}, {N: 1}, {Last: '1', N: math.MaxInt}} {
		change("Stuff", func(d *api.Ctl) { d.Stuff = x })
	}
	for _, got := range []string{"x", "0x", "01 ", "1", "é", strings.Repeat("0", 201), strings.Repeat("0", 5000), "0" + strings.Repeat("1", 38)} {
		change("Got", func(d *api.Ctl) { d.Got = got })
	}
}

func TestRightOutsideAFrame(t *testing.T) {
	for state, span := range places() {
		all(api.Ctl{State: state, N: span[1]}, func(c api.Ctl) {
			isRight(t, c, true)
			changed(c, func(what string, d api.Ctl) { isRight(t, d, false) })
			for _, d := range []api.Ctl{sending(api.Frame{Id: 5}, 1), behind(api.Ctl{}, "0"), behind(api.Ctl{}, bitsOf(api.Frame{Id: 5})[:40])} {
				d.Count, d.State, d.N = c.Count, c.State, c.N
				isRight(t, d, false)
			}
			for _, d := range []api.Ctl{
				{Tail: 1}, {Got: "0"}, {Stuff: api.Stuffer{Last: '0', N: 1}}, {Out: "0"}, {At: 1}, {End: true}, {Good: true}, {Sends: true},
			} {
				d.Count, d.State, d.N, d.Has, d.Frame = c.Count, c.State, c.N, c.Has, c.Frame
				isRight(t, d, false)
			}
		})
	}
}

func TestRightInAFrame(t *testing.T) {
	for _, f := range someFrames() {
		row := bitsOf(f)
		for k := 1; k < len(row); k++ {
			for _, base := range []api.Ctl{{}, {Has: true, Frame: f}, {Has: true, Frame: f, Sends: true}} {
				c := behind(base, row[:k])
				isRight(t, c, true)
				changed(c, func(what string, d api.Ctl) { isRight(t, d, false) })
				for _, n := range []int{1, -1, math.MaxInt} {
					c.N = n
					isRight(t, c, false)
				}
			}
		}
	}
}

func TestRightSending(t *testing.T) {
	for _, f := range someFrames() {
		row := bitsOf(f)
		end := len(row) - 10
		for k := 1; k < len(row); k++ {
			c := sending(f, k)
			for at := range len(row) + 3 {
				d := c
				d.At = at
				isRight(t, d, at == k)
			}
			for tail := range 12 {
				d := c
				d.Tail = tail
				isRight(t, d, tail == max(k-end, 0))
				d.At = end + tail
				isRight(t, d, k >= end && tail <= 9)
			}
			d := c
			d.Frame.Id ^= 1
			isRight(t, d, false)
			d.Out = bitsOf(d.Frame)
			isRight(t, d, strings.HasPrefix(d.Out, row[:k]))
			d = c
			d.Stuff.N = d.Stuff.N%4 + 1
			isRight(t, d, d.Stuff.N == c.Stuff.N)
			d = c
			d.Stuff.Last ^= 1
			isRight(t, d, false)
		}
		// Its last ten bits are behind the end, and there is none behind these.
		d := sending(f, len(row)-1)
		d.Tail, d.At = 10, len(row)
		isRight(t, d, false)
		d = sending(f, end-1)
		d.At = end
		isRight(t, d, false)
	}
}

// Of one that does not send, what stuffing knows need not come of what it got.
func TestRightListening(t *testing.T) {
	for _, f := range someFrames() {
		row := bitsOf(f)
		end := len(row) - 10
		for k := 1; k < len(row); k++ {
			c := behind(api.Ctl{}, row[:k])
			whole := len(c.Got) == len(headOf(f))+15
			c.Stuff = api.Stuffer{}
			isRight(t, c, false)
			for n := range 7 {
				c.Stuff = api.Stuffer{Last: "01"[n%2], N: n}
				isRight(t, c, n >= 1 && n <= 5 && (!whole || (n < 5) == c.End))
			}
			c = behind(api.Ctl{}, row[:k])
			for tail := range 12 {
				c.Tail = tail
				isRight(t, c, tail == 0 || k >= end && tail <= 9)
			}
		}
	}
}

// whole is a controller that listened, with such bits, at the end of a frame.
func whole(got string, good bool) api.Ctl {
	return api.Ctl{State: api.SFrame, Got: got, Stuff: api.Stuffer{Last: '0', N: 1}, End: true, Good: good}
}

// turned is a row with one bit turned.
func turned(row string, at int) string {
	return row[:at] + string(rune(row[at]^1)) + row[at+1:]
}

func TestRightGood(t *testing.T) {
	for _, f := range someFrames() {
		head := headOf(f)
		got := summed(head)
		isRight(t, whole(got, true), true)
		isRight(t, whole(got, false), false)
		for at := len(head); at < len(got); at++ {
			isRight(t, whole(turned(got, at), false), true)
			isRight(t, whole(turned(got, at), true), false)
		}
		// Bits that stand fast, and are others, are no frame's, though their sum is right.
		fast := []int{14}
		if f.Ext {
			fast = []int{12, 33, 34}
		}
		for _, at := range fast {
			isRight(t, whole(summed(turned(head, at)), false), true)
			isRight(t, whole(summed(turned(head, at)), true), false)
		}
	}
}

func TestRightGot(t *testing.T) {
	c := api.Ctl{State: api.SFrame, Stuff: api.Stuffer{Last: '0', N: 1}}
	cases := []struct {
		got  string
		want bool
	}{
		{"", false}, {"1", false}, {"0", true}, {"01", true}, {"10", false}, {"02", false}, {"0\x00", false},
		{"0" + strings.Repeat("1", 12), true},
		{"0" + strings.Repeat("1", 37), true},
		// Dlc 8, and 9: not Ext, and Ext.
		{"0000000001010001000", true}, {"0000000001010001001", false}, {"0000000001010001111", false},
		{"0000000001011001001", false}, {"000000000101100100", true},
		{"0" + strings.Repeat("0", 11) + "11" + strings.Repeat("0", 18) + "0001000", true},
		{"0" + strings.Repeat("0", 11) + "11" + strings.Repeat("0", 18) + "0001001", false},
		{"0" + strings.Repeat("0", 11) + "11" + strings.Repeat("0", 18) + "000100", true},
		// All but one of its bits, one too many, and many too many.
		{"0000000001010000000" + strings.Repeat("0", 14), true},
		{"0000000001010000000" + strings.Repeat("0", 16), false},
		{"0000000001010000000" + strings.Repeat("0", 181), false},
		{"0000000001010001000" + strings.Repeat("0", 78), true},
		{"0000000001010001000" + strings.Repeat("0", 80), false},
		{strings.Repeat("0", 200), false}, {strings.Repeat("0", 201), false}, {strings.Repeat("0", 4001), false},
	}
	for _, x := range cases {
		c.Got = x.got
		isRight(t, c, x.want)
	}
	// With one more stuffed bit to come it is not at its end.
	c.Got = "0000000001010000000" + strings.Repeat("0", 15)
	isRight(t, c, false)
	c.Stuff.N = 5
	isRight(t, c, true)
	c.End = true
	isRight(t, c, false)
	c.Stuff.N = 4
	isRight(t, c, true)
}

func TestSubmit(t *testing.T) {
	fs := someFrames()
	i := 0
	someControllers(func(c api.Ctl) {
		i++
		f := fs[i%len(fs)]
		want, e := c, api.OK
		want.Has, want.Frame = true, f
		if c.Has {
			want, e = api.Ctl{}, api.ErrBusy
		}
		if got, e2 := Submit(c, f); got != want || e2 != e {
			t.Errorf("Submit(%+v, %+v) = %+v, %d", c, f, got, e2)
		}
		wrong := wrongFrames()
		if got, e := Submit(c, wrong[i%len(wrong)]); got != (api.Ctl{}) || e != api.ErrArg {
			t.Errorf("Submit(%+v, wrong) = %+v, %d", c, got, e)
		}
	})
}

func TestCancel(t *testing.T) {
	someControllers(func(c api.Ctl) {
		want, e := c, api.OK
		want.Has, want.Frame = false, api.Frame{}
		if !c.Has {
			want, e = api.Ctl{}, api.ErrNone
		} else if c.Sends {
			want, e = api.Ctl{}, api.ErrBusy
		}
		if got, e2 := Cancel(c); got != want || e2 != e {
			t.Errorf("Cancel(%+v) = %+v, %d", c, got, e2)
		}
	})
	// One that lost has its frame still, and may take it back.
	f := api.Frame{Id: 0x400}
	c, _ := fed(t, idle(t, f), "00")
	if d, e := Cancel(c); e != api.OK || d.Has || d.Frame != (api.Frame{}) || d.Got != "00" {
		t.Errorf("%+v, %d", d, e)
	}
}

func TestWrongControllersTellErrArg(t *testing.T) {
	wrong := []api.Ctl{
		{State: -1}, {State: 9}, {N: -1}, {N: 11}, {Count: api.Count{Tec: 256}}, {State: api.SOff}, {State: api.SFrame}, {State: api.SDelim},
		{Count: api.Count{Off: true, Rest: 1}}, {Has: true, Frame: api.Frame{Dlc: 9}}, {Frame: api.Frame{Id: 1}}, {Sends: true}, {Got: "0"},
		{State: api.SFrame, Got: "0", Stuff: api.Stuffer{Last: '0', N: 1}, Sends: true}, {State: math.MaxInt}, {State: math.MinInt},
		{State: api.SFrame, Got: "0", Stuff: api.Stuffer{Last: '0', N: 1}, Sends: true, Has: true, Out: "0", At: 1},
		{State: api.SFrame, Got: "0", Stuff: api.Stuffer{Last: '0', N: 1}, End: true, Good: true, Tail: 1},
	}
	for _, c := range wrong {
		isRight(t, c, false)
		for _, f := range []api.Frame{{Id: 5}, {Dlc: 9}} {
			if d, e := Submit(c, f); d != (api.Ctl{}) || e != api.ErrArg {
				t.Errorf("Submit(%+v) = %+v, %d", c, d, e)
			}
		}
		if d, e := Cancel(c); d != (api.Ctl{}) || e != api.ErrArg {
			t.Errorf("Cancel(%+v) = %+v, %d", c, d, e)
		}
		if bit, e := Drive(c); bit != 0 || e != api.ErrArg {
			t.Errorf("Drive(%+v) = %d, %d", c, bit, e)
		}
		for _, bit := range []byte{'0', '1', 'x'} {
			if d, v, e := Sample(c, bit); d != (api.Ctl{}) || v != (api.Event{}) || e != api.ErrArg {
				t.Errorf("Sample(%+v) = %+v, %+v, %d", c, d, v, e)
			}
		}
	}
}
