package bus

import (
	"math"
	"slices"
	"testing"

	"campanile/api"
	"campanile/ctl"
)

// P8.2

func TestStep(t *testing.T) {
	someBuses(func(b api.Bus) {
		n := len(b.Ctls)
		was := slices.Clone(b.Ctls)
		for mask := range 1 << n {
			m := model{ctls: slices.Clone(b.Ctls), now: b.Now}
			want := m.step(mask)
			turned := flags(mask, n)
			got, l, e := Step(b, turned...)
			if e != api.OK || !isSame(got, api.Bus{Ctls: m.ctls, Now: b.Now + 1}) || !slices.Equal(l, want) {
				t.Errorf("Step(%+v, %v) = %+v, %+v, %d;\nwant %+v, %+v", b, turned, got, l, e, m.ctls, want)
			}
			if !slices.Equal(b.Ctls, was) || !slices.Equal(turned, flags(mask, n)) {
				t.Errorf("Step changed %+v, or %v", was, turned)
			}
		}
	})
}

// Where turned ends nothing is turned.
func TestStepWithFewerPlaces(t *testing.T) {
	someBuses(func(b api.Bus) {
		n := len(b.Ctls)
		for k := range n {
			for mask := range 1 << k {
				want, l := stepped(t, b, flags(mask, n)...)
				got, l2 := stepped(t, b, flags(mask, k)...)
				if !isSame(got, want) || !slices.Equal(l, l2) {
					t.Errorf("Step(%+v, %v) = %+v, %+v", b, flags(mask, k), got, l2)
				}
			}
		}
	})
}

func TestStepWithMorePlaces(t *testing.T) {
	for n := 1; n <= 4; n++ {
		b := joined(t, n)
		for k := n + 1; k < n+4; k++ {
			for _, mask := range []int{0, 1, 1 << n, 1<<k - 1} {
				if c, l, e := Step(b, flags(mask, k)...); !isNothing(c) || l != nil || e != api.ErrArg {
					t.Errorf("Step with %v for %d: %+v, %+v, %d", flags(mask, k), n, c, l, e)
				}
			}
		}
		stepped(t, b, make([]bool, n)...)
	}
}

// What is turned is what one sees, not what the bus has: the others see that.
func TestStepTurnsForOneAlone(t *testing.T) {
	for n := 1; n <= 4; n++ {
		for who := range n {
			b, l := stepped(t, joined(t, n), flags(1<<who, n)...)
			for i, c := range b.Ctls {
				want := api.Ctl{State: api.SIdle}
				if i == who {
					want = api.Ctl{State: api.SFrame, Got: "0", Stuff: api.Stuffer{Last: '0', N: 1}}
				}
				if c != want || l[i] != (api.Event{}) {
					t.Errorf("%d of %d: %+v, %+v", who, n, c, l[i])
				}
			}
		}
	}
	// One that drives sees its own bit turned; then nobody but the other one has begun.
	b := submitted(t, joined(t, 2), 0, api.Frame{Id: 5})
	b, l := stepped(t, b, true)
	if b.Ctls[0].State != api.SIdle || b.Ctls[1].State != api.SFrame || b.Ctls[1].Sends || !slices.Equal(l, make([]api.Event, 2)) {
		t.Errorf("%+v, %+v", b, l)
	}
}

func TestStepTellsAllInOrder(t *testing.T) {
	f := api.Frame{Id: 5}
	b := submitted(t, joined(t, 3), 1, f)
	b, _ = ran(t, b, len(rowOf(f))-2)
	b, l := stepped(t, b)
	came := api.Event{Kind: api.VCame, Frame: f}
	if !slices.Equal(l, []api.Event{came, {}, came}) {
		t.Errorf("%+v", l)
	}
	_, l = stepped(t, b)
	if !slices.Equal(l, []api.Event{{}, {Kind: api.VSent, Frame: f}, {}}) {
		t.Errorf("%+v", l)
	}
	// At one bit one has an error, and the other one lost.
	b = submitted(t, submitted(t, joined(t, 2), 0, api.Frame{Id: 0x2AA}), 1, api.Frame{Id: 0x6AA})
	b, _ = stepped(t, b)
	_, l = stepped(t, b)
	if !slices.Equal(l, []api.Event{{}, {Kind: api.VLost}}) {
		t.Errorf("%+v", l)
	}
	_, l = stepped(t, b, true)
	if !slices.Equal(l, []api.Event{{Kind: api.VError, Bad: api.ErrBit}, {Kind: api.VLost}}) {
		t.Errorf("%+v", l)
	}
}

func TestTheLastBit(t *testing.T) {
	const most = 1 << 40
	b := joined(t, 2)
	b.Now = most - 1
	b, _ = stepped(t, b)
	if c, l, e := Step(b); !isNothing(c) || l != nil || e != api.ErrArg {
		t.Errorf("%+v, %+v, %d", c, l, e)
	}
	if c, e := Submit(b, 0, api.Frame{Id: 5}); e != api.OK || c.Now != most {
		t.Errorf("%+v, %d", c, e)
	}
	if bit, e := Level(b); bit != '1' || e != api.OK {
		t.Errorf("%c, %d", bit, e)
	}
	if c, l := ran(t, b, 0); !isSame(c, b) || len(l) != 0 {
		t.Errorf("%+v, %+v", c, l)
	}
	for _, x := range []struct {
		now, n int
		want   api.Errno
	}{
		{most, 0, api.OK}, {most, 1, api.ErrArg}, {most, 20000, api.ErrArg}, {most - 1, 1, api.OK}, {most - 1, 2, api.ErrArg},
		{most - 20000, 20000, api.OK}, {most - 19999, 20000, api.ErrArg}, {most - 20000, 20001, api.ErrArg}, {most, -1, api.ErrArg},
	} {
		b.Now = x.now
		c, l, e := Run(b, x.n)
		if e != x.want || e == api.OK && c.Now != x.now+x.n || e != api.OK && (!isNothing(c) || l != nil) {
			t.Errorf("Run(%d, %d) = %+v, %+v, %d", x.now, x.n, c, l, e)
		}
	}
}

func TestRunWrongNumbers(t *testing.T) {
	b := joined(t, 3)
	for _, n := range []int{-1, 20001, 1 << 32, math.MaxInt, math.MinInt, -20000} {
		if c, l, e := Run(b, n); !isNothing(c) || l != nil || e != api.ErrArg {
			t.Errorf("Run(%d) = %+v, %+v, %d", n, c, l, e)
		}
	}
	ran(t, b, 20000)
}

// seenOf are the steps' events but VNone, with nothing turned.
func seenOf(m *model, n int) []api.Seen {
	var l []api.Seen
	for range n {
		at := m.now
		for who, v := range m.step(0) {
			if v.Kind != api.VNone {
				l = append(l, api.Seen{At: at, Who: who, Event: v})
			}
		}
	}
	return l
}

func TestRun(t *testing.T) {
	kinds := map[int]int{}
	someBuses(func(b api.Bus) {
		was := slices.Clone(b.Ctls)
		for _, n := range []int{0, 1, 2, 11, 200} {
			m := model{ctls: slices.Clone(b.Ctls), now: b.Now}
			want := seenOf(&m, n)
			got, l := ran(t, b, n)
			if !isSame(got, api.Bus{Ctls: m.ctls, Now: m.now}) || !slices.Equal(l, want) {
				t.Errorf("Run(%+v, %d) = %+v, %+v;\nwant %+v, %+v", b, n, got, l, m, want)
			}
			for _, s := range l {
				kinds[s.Event.Kind]++
			}
			if !slices.Equal(b.Ctls, was) {
				t.Errorf("Run changed %+v", was)
			}
		}
	})
	if len(kinds) != 4 {
		t.Errorf("%+v", kinds)
	}
}

// As many bits as may be at once are as many steps, of those that err without an end, too.
func TestRunAsFarAsItMay(t *testing.T) {
	for n := 1; n <= 4; n++ {
		b := api.Bus{Now: 1000}
		for i := range n {
			// All of one field, with unlike data: their bits are unlike where none may lose.
			b.Ctls = append(b.Ctls, idle(api.Frame{Id: 5, Dlc: 1, Data: "abcd"[i : i+1]}))
		}
		m := model{ctls: slices.Clone(b.Ctls), now: b.Now}
		want := seenOf(&m, 20000)
		got, l := ran(t, b, 20000)
		if !isSame(got, api.Bus{Ctls: m.ctls, Now: 21000}) || !slices.Equal(l, want) || len(l) < 10 {
			t.Errorf("%d: %+v, %d events", n, got, len(l))
		}
	}
}

// Some play on, and now and then one or more see a bit turned: what Step has them be is what each becomes by the bit that it sees.
func TestAnyPlay(t *testing.T) {
	kinds, states := map[api.Event]int{}, map[int]int{}
	for seed := range chance(24) {
		ch := seed * 977
		n := int(1 + seed%4)
		b, _ := New(n)
		m := model{ctls: slices.Clone(b.Ctls)}
		often := []uint32{30, 400, 4000}[seed%3]
		for range 3000 {
			if at := int(ch.below(uint32(n))); ch.below(40) == 0 && !b.Ctls[at].Has {
				f := ch.frame()
				b = submitted(t, b, at, f)
				m.ctls[at], _ = ctl.Submit(m.ctls[at], f)
			}
			mask := 0
			if ch.below(often) == 0 {
				mask = int(ch.below(1 << n))
			}
			want := m.step(mask)
			next, l := stepped(t, b, flags(mask, n)...)
			if !isSame(next, api.Bus{Ctls: m.ctls, Now: m.now}) || !slices.Equal(l, want) {
				t.Fatalf("Step(%+v, %b) = %+v, %+v;\nwant %+v, %+v", b, mask, next, l, m, want)
			}
			for i, v := range l {
				kinds[api.Event{Kind: v.Kind, Bad: v.Bad}]++
				states[next.Ctls[i].State]++
			}
			b = next
		}
	}
	// All that may happen did, so that none of it went by unheld.
	if len(kinds) != 9 || len(states) != 9 {
		t.Errorf("%+v, %+v", kinds, states)
	}
}

// R1, R4, R7: a second call answers the same, and what is answered is its own.

func TestAnswersAreTheirOwn(t *testing.T) {
	f := api.Frame{Id: 5}
	b := submitted(t, joined(t, 2), 0, f)
	was := slices.Clone(b.Ctls)
	turned := []bool{true, false}
	for range 2 {
		c := submitted(t, b, 1, f)
		clear(c.Ctls)
		c, l := stepped(t, b, turned...)
		clear(c.Ctls)
		clear(l)
		for _, n := range []int{0, 1, 60} {
			c, _ = ran(t, b, n)
			clear(c.Ctls)
		}
		if !slices.Equal(b.Ctls, was) || !turned[0] || turned[1] {
			t.Errorf("%+v, %v", b, turned)
		}
	}
	c, _ := New(3)
	clear(c.Ctls)
	c.Ctls[0].State = api.SIdle
	if d, e := New(3); e != api.OK || d.Ctls[0] != ctl.New() {
		t.Errorf("%+v", d)
	}
}

// P1: no call panics, whatever it is given; a panic here ends the test.

func FuzzNoCallPanics(f *testing.F) {
	f.Add(2, 11, 0, 0, 0, uint32(5), 1, "x", "", 0, uint8(0), 50)
	f.Add(1, 0, 1, 0, 8, uint32(5), 1, "x", "", 0, uint8(1), 20000)
	f.Add(4, 1<<40, 2, 0, 0x18, uint32(5), 0, "", "0", 1, uint8(9), 0)
	f.Add(5, -1, 3, 5, 2, uint32(0), 0, "", "", 0, uint8(255), 1)
	f.Add(math.MinInt, math.MaxInt, math.MinInt, math.MaxInt, math.MaxInt, uint32(math.MaxUint32), math.MinInt, "x", "2", math.MaxInt, uint8(255), math.MinInt)
	f.Fuzz(func(t *testing.T, n, now, state, far, is int, id uint32, dlc int, data, got string, at int, mask uint8, bits int) {
		c := api.Ctl{
			State: state, N: far, Was: is&1 > 0, Hard: is&2 > 0, Has: is&8 > 0, Sends: is&16 > 0, Got: got, At: at,
			Frame: api.Frame{Id: id, Ext: is&4 > 0, Dlc: dlc, Data: data},
		}
		if got != "" {
			c.Stuff = api.Stuffer{Last: got[len(got)-1], N: 1}
		}
		b, e := New(n)
		if (n >= 1 && n <= 4) != (e == api.OK) {
			t.Errorf("New(%d): %d", n, e)
		}
		b.Now = now
		b.Ctls = append(b.Ctls, c)
		may := Right(b)
		_, e = Level(b)
		next, l, e2 := Step(b, flags(int(mask), int(mask)%6)...)
		end, seen, e3 := Run(b, bits)
		s, e4 := Submit(b, at, c.Frame)
		if may != (e == api.OK) || !may && (e2 != api.ErrArg || e3 != api.ErrArg || e4 != api.ErrArg) {
			t.Errorf("%+v: %v, %d, %d, %d, %d", b, may, e, e2, e3, e4)
		}
		if e2 == api.OK && (!Right(next) || len(l) != len(b.Ctls)) || e2 != api.OK && (l != nil || !isNothing(next)) {
			t.Errorf("%+v: %+v, %+v, %d", b, next, l, e2)
		}
		if e3 == api.OK && !Right(end) || e3 != api.OK && (seen != nil || !isNothing(end)) || e4 == api.OK && !Right(s) {
			t.Errorf("%+v: %+v, %+v, %d, %+v, %d", b, end, seen, e3, s, e4)
		}
	})
}
