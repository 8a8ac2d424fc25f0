package bus

import (
	"math"
	"slices"
	"testing"

	"campanile/api"
	"campanile/ctl"
)

// P8.1

func TestNew(t *testing.T) {
	for n := 1; n <= 4; n++ {
		b, e := New(n)
		if e != api.OK || len(b.Ctls) != n || b.Now != 0 || !Right(b) {
			t.Errorf("New(%d) = %+v, %d", n, b, e)
		}
		for _, c := range b.Ctls {
			if c != (api.Ctl{State: api.SJoin}) {
				t.Errorf("New(%d): %+v", n, c)
			}
		}
	}
	for _, n := range []int{0, -1, 5, 100, 1<<32 + 1, math.MaxInt, math.MinInt} {
		if b, e := New(n); !isNothing(b) || e != api.ErrArg {
			t.Errorf("New(%d) = %+v, %d", n, b, e)
		}
	}
}

func TestRight(t *testing.T) {
	someBuses(func(b api.Bus) {
		for _, b.Now = range []int{0, 1, 1 << 32, 1<<40 - 1, 1 << 40} {
			if !Right(b) {
				t.Errorf("%+v", b)
			}
		}
		for _, b.Now = range []int{-1, 1<<40 + 1, math.MaxInt, math.MinInt} {
			if Right(b) {
				t.Errorf("%+v", b)
			}
		}
	})
	for _, b := range wrongBuses() {
		if Right(b) {
			t.Errorf("%+v", b)
		}
	}
}

func TestRightAsksAllControllers(t *testing.T) {
	for _, c := range wrongControllers() {
		for n := 1; n <= 4; n++ {
			for at := range n {
				b := api.Bus{Ctls: make([]api.Ctl, n)}
				b.Ctls[at] = c
				if Right(b) {
					t.Errorf("%+v", b)
				}
			}
		}
	}
}

func TestSubmit(t *testing.T) {
	f := api.Frame{Id: 7, Ext: true, Dlc: 2, Data: "ab"}
	someBuses(func(b api.Bus) {
		was := slices.Clone(b.Ctls)
		for at := range b.Ctls {
			want := api.Bus{Ctls: slices.Clone(b.Ctls), Now: b.Now}
			e := api.OK
			if b.Ctls[at].Has {
				want, e = api.Bus{}, api.ErrBusy
			} else {
				want.Ctls[at].Has, want.Ctls[at].Frame = true, f
			}
			got, e2 := Submit(b, at, f)
			if !isSame(got, want) || e2 != e || e != api.OK && !isNothing(got) {
				t.Errorf("Submit(%+v, %d) = %+v, %d", b, at, got, e2)
			}
			for _, wrong := range wrongFrames() {
				if got, e := Submit(b, at, wrong); !isNothing(got) || e != api.ErrArg {
					t.Errorf("Submit(%+v, %d, %+v) = %+v, %d", b, at, wrong, got, e)
				}
			}
			if !slices.Equal(b.Ctls, was) {
				t.Errorf("Submit changed %+v", was)
			}
		}
		n := len(b.Ctls)
		for _, at := range []int{-1, n, n + 1, 100, math.MaxInt, math.MinInt} {
			if got, e := Submit(b, at, f); !isNothing(got) || e != api.ErrArg {
				t.Errorf("Submit(%+v, %d) = %+v, %d", b, at, got, e)
			}
		}
	})
}

// A frame that may not be is told ahead of one that waits already, and is none to one that has it.
func TestSubmitTwice(t *testing.T) {
	f := api.Frame{Id: 5}
	b := submitted(t, joined(t, 2), 1, f)
	if c, e := Submit(b, 1, f); !isNothing(c) || e != api.ErrBusy {
		t.Errorf("%+v, %d", c, e)
	}
	if c, e := Submit(b, 1, api.Frame{Dlc: 9}); !isNothing(c) || e != api.ErrArg {
		t.Errorf("%+v, %d", c, e)
	}
	if c, e := Submit(b, 2, f); !isNothing(c) || e != api.ErrArg {
		t.Errorf("%+v, %d", c, e)
	}
	b = submitted(t, b, 0, f)
	if !b.Ctls[0].Has || !b.Ctls[1].Has {
		t.Errorf("%+v", b)
	}
}

func TestLevel(t *testing.T) {
	someBuses(func(b api.Bus) {
		m := model{ctls: b.Ctls}
		if bit, e := Level(b); bit != m.bus() || e != api.OK {
			t.Errorf("Level(%+v) = %c, %d", b, bit, e)
		}
	})
}

// Each of them that drives `0` has the bus have it, whoever else drives.
func TestLevelOfAllWhoDrive(t *testing.T) {
	for n := 1; n <= 4; n++ {
		for mask := range 1 << n {
			b := api.Bus{Ctls: make([]api.Ctl, n)}
			for i, low := range flags(mask, n) {
				b.Ctls[i] = idle()
				if low {
					b.Ctls[i] = idle(api.Frame{Id: 5})
				}
			}
			want := byte('0')
			if mask == 0 {
				want = '1'
			}
			if bit, e := Level(b); bit != want || e != api.OK {
				t.Errorf("%d of %d: %c, %d", mask, n, bit, e)
			}
		}
	}
	// Joined they have nothing to send; a flag is dominant where it is Hard alone.
	for _, x := range []struct {
		c    api.Ctl
		want byte
	}{
		{ctl.New(), '1'}, {api.Ctl{State: api.SFlag, Hard: true}, '0'}, {api.Ctl{State: api.SFlag}, '1'},
		{api.Ctl{Has: true, Frame: api.Frame{Id: 5}}, '1'}, {api.Ctl{State: api.SOff, Count: api.Count{Off: true, Rest: 3}, Hard: true}, '1'},
	} {
		if bit, e := Level(api.Bus{Ctls: []api.Ctl{x.c}}); bit != x.want || e != api.OK {
			t.Errorf("%+v: %c, %d", x.c, bit, e)
		}
	}
}

func TestWrongBusesTellErrArg(t *testing.T) {
	for _, b := range wrongBuses() {
		for _, at := range []int{0, -1, 7} {
			if c, e := Submit(b, at, api.Frame{Id: 5}); !isNothing(c) || e != api.ErrArg {
				t.Errorf("Submit(%+v) = %+v, %d", b, c, e)
			}
		}
		if bit, e := Level(b); bit != 0 || e != api.ErrArg {
			t.Errorf("Level(%+v) = %d, %d", b, bit, e)
		}
		for _, turned := range [][]bool{nil, {true}, make([]bool, 9)} {
			if c, l, e := Step(b, turned...); !isNothing(c) || l != nil || e != api.ErrArg {
				t.Errorf("Step(%+v) = %+v, %+v, %d", b, c, l, e)
			}
		}
		for _, n := range []int{0, 1, 30, -1, 20001} {
			if c, l, e := Run(b, n); !isNothing(c) || l != nil || e != api.ErrArg {
				t.Errorf("Run(%+v, %d) = %+v, %+v, %d", b, n, c, l, e)
			}
		}
	}
}
