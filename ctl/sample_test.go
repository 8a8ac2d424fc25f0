package ctl

import (
	"testing"

	"campanile/api"
)

// P7.2

func TestDriveOutsideAFrame(t *testing.T) {
	for state, span := range places() {
		for _, n := range span {
			all(api.Ctl{State: state, N: n}, func(c api.Ctl) {
				want := byte('1')
				if state == api.SIdle && c.Has || state == api.SFlag && c.Hard {
					want = '0'
				}
				isDrive(t, c, want)
			})
		}
	}
}

func TestDriveInAFrame(t *testing.T) {
	for _, f := range someFrames() {
		row := bitsOf(f)
		for k := 1; k < len(row); k++ {
			isDrive(t, sending(f, k), row[k])
			for _, base := range []api.Ctl{{}, {Has: true, Frame: f}, {Hard: true}} {
				c := behind(base, row[:k])
				isDrive(t, c, "10"[b2i(k == len(row)-9)])
				if !c.End {
					continue
				}
				// Of what is no good frame it does not tell that it came.
				c.Got = turned(c.Got, len(c.Got)-1)
				c.Good = false
				isDrive(t, c, '1')
			}
		}
	}
}

func b2i(b bool) int {
	if b {
		return 1
	}
	return 0
}

func TestSampleWrongBits(t *testing.T) {
	someControllers(func(c api.Ctl) {
		for _, bit := range []byte{0, 1, '2', '/', 'x', ' ', 255} {
			if d, v, e := Sample(c, bit); d != (api.Ctl{}) || v != (api.Event{}) || e != api.ErrArg {
				t.Errorf("Sample(%+v, %d) = %+v, %+v, %d", c, bit, d, v, e)
			}
		}
	})
}

// began is a controller at the first bit of a frame.
func began(c api.Ctl, sends bool) api.Ctl {
	c = in(c, api.SFrame, 0)
	c.Got, c.Stuff = "0", api.Stuffer{Last: '0', N: 1}
	c.Sends, c.Was = sends, sends
	if sends {
		c.Out, c.At = bitsOf(c.Frame), 1
	}
	return c
}

func TestSampleJoin(t *testing.T) {
	for n := range 11 {
		all(api.Ctl{State: api.SJoin, N: n}, func(c api.Ctl) {
			isQuiet(t, c, '0', in(c, api.SJoin, 0))
			if n < 10 {
				isQuiet(t, c, '1', in(c, api.SJoin, n+1))
			} else {
				isQuiet(t, c, '1', in(c, api.SIdle, 0))
			}
		})
	}
}

func TestSampleIdle(t *testing.T) {
	all(api.Ctl{State: api.SIdle}, func(c api.Ctl) {
		isQuiet(t, c, '1', c)
		isQuiet(t, c, '0', began(c, c.Has))
	})
}

func TestSampleFlag(t *testing.T) {
	for n := range 6 {
		all(api.Ctl{State: api.SFlag, N: n}, func(c api.Ctl) {
			want := in(c, api.SFlag, n+1)
			if n == 5 {
				want = in(c, api.SEcho, 0)
			}
			isQuiet(t, c, '0', want)
			isQuiet(t, c, '1', want)
		})
	}
}

func TestSampleEcho(t *testing.T) {
	ns := []int{999999991, 999999992, 999999998, 999999999, 1000000000}
	for n := range 34 {
		ns = append(ns, n)
	}
	for _, n := range ns {
		all(api.Ctl{State: api.SEcho, N: n}, func(c api.Ctl) {
			isQuiet(t, c, '1', in(c, api.SDelim, 1))
			want := in(c, api.SEcho, n+1)
			if n == 1000000000 {
				want.N = n
			}
			switch n {
			case 0:
				if !c.Was {
					want = countsErrors(want, 0, 8)
				}
			case 7, 15, 23, 31, 999999991, 999999999, 1000000000:
				if c.Was {
					want = countsErrors(want, 8, 0)
				} else {
					want = countsErrors(want, 0, 8)
				}
			}
			isQuiet(t, c, '0', want)
		})
	}
}

func TestSampleDelim(t *testing.T) {
	for n := 1; n <= 7; n++ {
		all(api.Ctl{State: api.SDelim, N: n}, func(c api.Ctl) {
			isQuiet(t, c, '0', in(c, api.SFlag, 0))
			if n < 7 {
				isQuiet(t, c, '1', in(c, api.SDelim, n+1))
			} else {
				isQuiet(t, c, '1', in(c, api.SGap, 0))
			}
		})
	}
}

func TestSampleGap(t *testing.T) {
	for n := range 3 {
		all(api.Ctl{State: api.SGap, N: n}, func(c api.Ctl) {
			if n < 2 {
				isQuiet(t, c, '0', hard(in(c, api.SFlag, 0), true))
				isQuiet(t, c, '1', in(c, api.SGap, n+1))
				return
			}
			isQuiet(t, c, '0', began(c, false))
			if c.Was && isPassive(c) {
				isQuiet(t, c, '1', in(c, api.SHold, 0))
			} else {
				isQuiet(t, c, '1', in(c, api.SIdle, 0))
			}
		})
	}
}

func TestSampleHold(t *testing.T) {
	for n := range 8 {
		all(api.Ctl{State: api.SHold, N: n}, func(c api.Ctl) {
			isQuiet(t, c, '0', began(c, false))
			if n < 7 {
				isQuiet(t, c, '1', in(c, api.SHold, n+1))
			} else {
				isQuiet(t, c, '1', in(c, api.SIdle, 0))
			}
		})
	}
}

func TestSampleOff(t *testing.T) {
	for n := range 11 {
		all(api.Ctl{State: api.SOff, N: n}, func(c api.Ctl) {
			isQuiet(t, c, '0', in(c, api.SOff, 0))
			if n < 10 {
				isQuiet(t, c, '1', in(c, api.SOff, n+1))
				return
			}
			want := in(c, api.SOff, 0)
			want.Count.Rest--
			if c.Count.Rest == 1 {
				want = in(c, api.SIdle, 0)
				want.Count = api.Count{}
			}
			isQuiet(t, c, '1', want)
		})
	}
}

// Through each frame, as one that sends it, one that listens, and one that listens with a frame of its own: what comes of either bit at each place.
func TestSampleInAFrame(t *testing.T) {
	for _, f := range someFrames() {
		row := bitsOf(f)
		bases := []api.Ctl{
			{Has: true, Frame: f, Sends: true, Was: true},
			{Has: true, Frame: f, Sends: true, Hard: true},
			{},
			{Has: true, Frame: api.Frame{Id: 9}, Was: true},
			{Hard: true},
		}
		for k := 1; k < len(row); k++ {
			for _, base := range bases {
				c := behind(base, row[:k])
				for _, c.Count = range someCounts() {
					for _, bit := range []byte{'0', '1'} {
						want, v := next(c, row[:k], bit)
						isSample(t, c, bit, want, v)
					}
				}
			}
		}
	}
}

// Rows that are no good frame's, up to each place: sums that are wrong, and bits that stand fast and are others.
func TestSampleInWrongFrames(t *testing.T) {
	for _, f := range someFrames() {
		head := headOf(f)
		rows := []string{summed(turned(head, 14)), summed(turned(head, 12)), summed(head[:len(head)-1] + "1")}
		for at := len(head); at < len(head)+15; at += 3 {
			rows = append(rows, turned(summed(head), at))
		}
		for _, got := range rows {
			row := stuffed(got) + "1111111111"
			end := endOf(row)
			for k := 1; k < len(row) && (end == 0 || k < end+10); k++ {
				if _, dlc, _ := sizes(plain(row[:k])); dlc > 8 || end == 0 && k > len(row)-10 {
					break
				}
				c := behind(api.Ctl{Was: true}, row[:k])
				for _, bit := range []byte{'0', '1'} {
					want, v := next(c, row[:k], bit)
					isSample(t, c, bit, want, v)
				}
			}
		}
	}
}

func TestSampleHandedInWithoutGood(t *testing.T) {
	f := api.Frame{Id: 5, Dlc: 1, Data: "x"}
	head := headOf(f)
	// Where the sum alone is wrong, the head tells a frame; else there is none.
	for got, want := range map[string]api.Frame{turned(summed(head), 30): f, summed(turned(head, 14)): {}} {
		for tail := 3; tail <= 8; tail++ {
			c := whole(got, false)
			c.Tail, c.Count.Rec = tail, 5
			d := c
			d.Tail++
			if tail < 8 {
				isQuiet(t, c, '1', d)
				continue
			}
			d.Count.Rec = 4
			isSample(t, c, '1', d, api.Event{Kind: api.VCame, Frame: want})
		}
	}
}

// By hand: the errors, and where they come.
func TestErrorsInAFrame(t *testing.T) {
	f := api.Frame{Id: 5, Dlc: 1, Data: "x"}
	row := bitsOf(f)
	n := len(row)
	cases := []struct {
		name string
		c    api.Ctl
		row  string
		bad  api.Errno
	}{
		{"six equal bits", idle(t), "000000", api.ErrStuff},
		{"six equal bits, the other kind", idle(t), "0111111", api.ErrStuff},
		{"six equal bits, behind some", idle(t), "0000010101000000", api.ErrStuff},
		{"six equal bits of one that lost", idle(t, api.Frame{Id: 0x7FF}), "000000", api.ErrStuff},
		{"a Dlc of nine", idle(t), stuffed("0000000001010001001"), api.ErrForm},
		{"a Dlc of nine, of one that asks", idle(t), stuffed("0000000001011001001"), api.ErrForm},
		{"a dominant bit behind the sum", idle(t), row[:n-10] + "0", api.ErrForm},
		{"so of the sender", idle(t, f), row[:n-10] + "0", api.ErrForm},
		{"nobody tells that it came", idle(t, f), row[:n-8], api.ErrAck},
		{"a dominant bit behind that", idle(t), row[:n-8] + "0", api.ErrForm},
		{"so of the sender", idle(t, f), row[:n-9] + "00", api.ErrForm},
		{"a wrong sum", idle(t), stuffed(turned(summed(headOf(f)), 41)) + "111", api.ErrCrc},
		{"a wrong sum, and a dominant bit", idle(t), stuffed(turned(summed(headOf(f)), 41)) + "110", api.ErrForm},
		{"a dominant bit at the last but one", idle(t), told(row)[:n-2] + "0", api.ErrForm},
		{"so of the sender", idle(t, f), told(row)[:n-2] + "0", api.ErrForm},
		{"a dominant last bit of the sender", idle(t, f), told(row)[:n-1] + "0", api.ErrForm},
		{"a recessive bit where it sends a dominant one", idle(t, f), "01", api.ErrBit},
		{"a dominant bit where it sends a recessive one, in its data", idle(t, f), row[:21] + string(rune(row[21]^1)), api.ErrBit},
	}
	for _, x := range cases {
		c, l := fed(t, x.c, x.row)
		for i, v := range l {
			last := i == len(l)-1
			if v.Kind == api.VError != last || last && (v != api.Event{Kind: api.VError, Bad: x.bad}) {
				t.Errorf("%s: at %d %+v", x.name, i, v)
			}
		}
		if c.State != api.SFlag || c.N != 0 || !c.Hard || c.Got != "" || c.Has != x.c.Has {
			t.Errorf("%s: %+v", x.name, c)
		}
	}
}

// One that sends loses at a bit of its field alone: ahead of the last one of these, but not behind it, nor at a stuffed one.
func TestWhereASenderLoses(t *testing.T) {
	for _, f := range someFrames() {
		row := bitsOf(f)
		field := 13
		if f.Ext {
			field = 32
		}
		for k := 1; k < len(row)-10; k++ {
			if row[k] == '0' {
				c, v, e := Sample(sending(f, k), '1')
				if v.Kind != api.VError || v.Bad != api.ErrBit || e != api.OK || c.Count.Tec != 8 || !c.Was {
					t.Errorf("%+v at %d: %+v, %+v", f, k, c, v)
				}
				continue
			}
			c, v, _ := Sample(sending(f, k), '0')
			// The place in the field of the bit that comes at k, if that is not stuffed.
			at := len(plain(row[:k])) - 1
			if run(row[:k]) < 5 && at < field {
				if v != (api.Event{Kind: api.VLost}) || c.Sends || c.Was || c.Out != "" || c.At != 0 || !c.Has || c.Frame != f || c.Got != plain(row[:k])+"0" {
					t.Errorf("%+v at %d: %+v, %+v", f, k, c, v)
				}
				continue
			}
			if v != (api.Event{Kind: api.VError, Bad: api.ErrBit}) || c.State != api.SFlag {
				t.Errorf("%+v at %d: %+v, %+v", f, k, c, v)
			}
		}
	}
}

// An error in sending that is one too many makes it off; its frame stays.
func TestOffByAnError(t *testing.T) {
	f := api.Frame{Id: 0x400}
	for tec := 240; tec < 256; tec++ {
		c := sending(f, 2)
		c.Hard, c.Count.Tec = true, tec
		want := api.Ctl{Count: api.Count{Tec: tec + 8}, State: api.SFlag, Was: true, Has: true, Frame: f}
		if tec >= 248 {
			want = api.Ctl{Count: api.Count{Off: true, Rest: 128}, State: api.SOff, Was: true, Hard: true, Has: true, Frame: f}
		}
		isSample(t, c, '1', want, api.Event{Kind: api.VError, Bad: api.ErrBit})
	}
}
