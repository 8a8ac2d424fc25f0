package bus

import (
	"math"
	"slices"
	"strings"
	"testing"

	"campanile/api"
	"campanile/ctl"
	"campanile/frame"
)

// chance is a row of numbers without a rule.
type chance uint32

func (c *chance) below(n uint32) uint32 {
	*c = *c*1664525 + 1013904223
	return uint32(uint64(*c) * uint64(n) >> 32)
}

func (c *chance) frame() api.Frame {
	f := api.Frame{Ext: c.below(2) == 1, Remote: c.below(4) == 0, Dlc: int(c.below(9))}
	// Often the upper bits are alike, so that it is late that one loses.
	f.Id = c.below(3) | 0x120
	if f.Ext {
		f.Id = f.Id<<18 | c.below(1<<18)
	}
	if c.below(2) == 0 {
		f.Id = c.below(1 << 11)
	}
	if !f.Remote {
		for range f.Dlc {
			f.Data += string([]byte{"\x00\xFF\x1F\xE0\x55"[c.below(5)]})
		}
	}
	return f
}

// frames are some frames, all of unlike fields.
func (c *chance) frames(n int) []api.Frame {
	var l []api.Frame
	for len(l) < n {
		f := c.frame()
		alike := func(g api.Frame) bool { return f.Id == g.Id && f.Ext == g.Ext && f.Remote == g.Remote }
		if !slices.ContainsFunc(l, alike) {
			l = append(l, f)
		}
	}
	return l
}

// rowOf are a frame's bits.
func rowOf(f api.Frame) string {
	row, e := frame.Bits(f)
	if e != api.OK {
		panic("no frame")
	}
	return row
}

// model is some controllers on one bus, each of them asked by ctl alone.
type model struct {
	ctls []api.Ctl
	now  int
}

func (m *model) bus() byte {
	for _, c := range m.ctls {
		if bit, _ := ctl.Drive(c); bit == '0' {
			return '0'
		}
	}
	return '1'
}

// step has a bit go by, that those see turned whose bits mask has.
func (m *model) step(mask int) []api.Event {
	bus := m.bus()
	var l []api.Event
	for i, c := range m.ctls {
		bit := bus
		if mask>>i&1 == 1 {
			bit = '0' + '1' - bus
		}
		next, v, _ := ctl.Sample(c, bit)
		m.ctls[i], l = next, append(l, v)
	}
	m.now++
	return l
}

// flags are mask's bits, n of them.
func flags(mask, n int) []bool {
	l := make([]bool, n)
	for i := range l {
		l[i] = mask>>i&1 == 1
	}
	return l
}

// behind is a controller behind some bits, with frames to send.
func behind(row string, fs ...api.Frame) api.Ctl {
	c := ctl.New()
	for i := range len(row) {
		c, _, _ = ctl.Sample(c, row[i])
	}
	for _, f := range fs {
		c, _ = ctl.Submit(c, f)
	}
	return c
}

// idle is a controller that has joined, with frames to send.
func idle(fs ...api.Frame) api.Ctl { return behind(strings.Repeat("1", 11), fs...) }

// someControllers holds controllers in all states, and in each those that drive either bit, if there are such.
func someControllers() []api.Ctl {
	f := api.Frame{Id: 0x155, Dlc: 1, Data: "x"}
	row := rowOf(f)
	told := row[:len(row)-9] + "0" + row[len(row)-8:]
	joined := strings.Repeat("1", 11)
	l := []api.Ctl{
		ctl.New(), behind("1111"), behind("1111111111"), idle(), idle(f), {State: api.SFlag, N: 3, Has: true, Frame: f},
		behind(joined + "000000"), behind(joined + "000000111"), behind(joined + "000000000000"), behind(joined + "0000000000001111"),
		behind(joined + "000000000000" + "11111111" + "1"), behind(joined + told + "1"), {State: api.SHold, N: 2, Was: true, Has: true, Frame: f},
		{State: api.SOff, N: 10, Count: api.Count{Off: true, Rest: 1}, Has: true, Frame: f}, {State: api.SEcho, N: 1_000_000_000},
		{State: api.SIdle, Count: api.Count{Tec: 255, Rec: 255}, Has: true, Frame: f},
	}
	for _, k := range []int{1, 2, 9, 20, len(row) - 10, len(row) - 9, len(row) - 2, len(row) - 1} {
		l = append(l, behind(joined+told[:k]), behind(joined+told[:k], f))
		c := idle(f)
		for i := range k {
			c, _, _ = ctl.Sample(c, told[i])
		}
		l = append(l, c)
	}
	return l
}

// wrongControllers holds controllers that may not be.
func wrongControllers() []api.Ctl {
	return []api.Ctl{
		{State: -1}, {State: 9}, {N: 11}, {State: api.SOff}, {Frame: api.Frame{Id: 1}}, {Has: true, Frame: api.Frame{Dlc: 9}},
		{Count: api.Count{Tec: 256}}, {Got: "0"}, {State: api.SFrame}, {State: math.MaxInt, N: math.MinInt},
		{State: api.SFrame, Got: "0", Stuff: api.Stuffer{Last: '0', N: 1}, Sends: true},
	}
}

// wrongFrames holds frames that may not be.
func wrongFrames() []api.Frame {
	return []api.Frame{{Id: 1 << 11}, {Id: 1 << 29, Ext: true}, {Dlc: 9, Data: "123456789"}, {Dlc: -1}, {Dlc: 1}, {Data: "a"}, {Remote: true, Dlc: math.MaxInt}}
}

// wrongBuses holds buses that may not be.
func wrongBuses() []api.Bus {
	l := []api.Bus{
		{}, {Ctls: []api.Ctl{}}, {Now: 5}, {Ctls: make([]api.Ctl, 5)}, {Ctls: make([]api.Ctl, 100)},
	}
	for _, now := range []int{-1, 1<<40 + 1, math.MinInt, math.MaxInt} {
		l = append(l, api.Bus{Ctls: []api.Ctl{idle()}, Now: now})
	}
	for _, c := range wrongControllers() {
		l = append(l, api.Bus{Ctls: []api.Ctl{c}}, api.Bus{Ctls: []api.Ctl{c, idle()}}, api.Bus{Ctls: []api.Ctl{idle(), idle(), idle(), c}, Now: 7})
	}
	return l
}

// someBuses hands on buses of one to four controllers in any states, each of these at each place.
func someBuses(see func(b api.Bus)) {
	ch := chance(11)
	all := someControllers()
	for n := 1; n <= 4; n++ {
		for i := range all {
			for at := range n {
				b := api.Bus{Ctls: make([]api.Ctl, n), Now: int(ch.below(1000))}
				for k := range b.Ctls {
					b.Ctls[k] = all[ch.below(uint32(len(all)))]
				}
				b.Ctls[at] = all[i]
				see(b)
			}
		}
	}
}

func isSame(a, b api.Bus) bool { return a.Now == b.Now && slices.Equal(a.Ctls, b.Ctls) }

func isNothing(b api.Bus) bool { return b.Ctls == nil && b.Now == 0 }

// joined is a bus of so many that have joined.
func joined(t *testing.T, n int) api.Bus {
	t.Helper()
	b, e := New(n)
	if e != api.OK {
		t.Fatal(e)
	}
	b, l := ran(t, b, 11)
	if len(l) != 0 {
		t.Fatalf("%+v", l)
	}
	return b
}

func submitted(t *testing.T, b api.Bus, at int, f api.Frame) api.Bus {
	t.Helper()
	c, e := Submit(b, at, f)
	if e != api.OK {
		t.Fatalf("Submit(%+v, %d, %+v): %d", b, at, f, e)
	}
	return c
}

func ran(t *testing.T, b api.Bus, n int) (api.Bus, []api.Seen) {
	t.Helper()
	c, l, e := Run(b, n)
	if e != api.OK || c.Now != b.Now+n || !Right(c) {
		t.Fatalf("Run(%+v, %d) = %+v, %+v, %d", b, n, c, l, e)
	}
	return c, l
}

func stepped(t *testing.T, b api.Bus, turned ...bool) (api.Bus, []api.Event) {
	t.Helper()
	c, l, e := Step(b, turned...)
	if e != api.OK || c.Now != b.Now+1 || !Right(c) {
		t.Fatalf("Step(%+v, %v) = %+v, %+v, %d", b, turned, c, l, e)
	}
	return c, l
}
