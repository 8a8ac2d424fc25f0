package ctl

import (
	"math"
	"strings"
	"testing"

	"campanile/api"
)

// P7.3

// wire is some controllers on one bus, and what happened to them.
type wire struct {
	t    *testing.T
	ctls []api.Ctl
	seen [][]api.Event
	last []int // the bit of the last one of these
	now  int
}

// newWire is a bus of controllers that have joined.
func newWire(t *testing.T, n int) *wire {
	w := &wire{t: t, ctls: make([]api.Ctl, n), seen: make([][]api.Event, n), last: make([]int, n)}
	for i := range w.ctls {
		w.ctls[i] = idle(t)
	}
	return w
}

// step has one bit go by, turned for one of them (-1: for none).
func (w *wire) step(turn int) {
	w.t.Helper()
	bus := byte('1')
	for _, c := range w.ctls {
		bit, e := Drive(c)
		if e != api.OK {
			w.t.Fatalf("Drive(%+v): %d", c, e)
		}
		bus = min(bus, bit)
	}
	for i, c := range w.ctls {
		bit := bus
		if i == turn {
			bit ^= 1
		}
		next, v, e := Sample(c, bit)
		if e != api.OK || !Right(next) {
			w.t.Fatalf("Sample(%+v, %c) = %+v, %+v, %d", c, bit, next, v, e)
		}
		w.ctls[i] = next
		if v.Kind != api.VNone {
			w.seen[i], w.last[i] = append(w.seen[i], v), w.now
		}
	}
	w.now++
}

func (w *wire) run(n int) {
	w.t.Helper()
	for range n {
		w.step(-1)
	}
}

// of are the frames of what happened to one of them, of one kind.
func (w *wire) of(who, kind int) []api.Frame {
	var l []api.Frame
	for _, v := range w.seen[who] {
		if v.Kind == kind {
			l = append(l, v.Frame)
		}
	}
	return l
}

// chance is a row of numbers without a rule.
type chance uint32

func (c *chance) below(n uint32) uint32 {
	*c = *c*1664525 + 1013904223
	return uint32(uint64(*c) * uint64(n) >> 32)
}

func (c *chance) frame() api.Frame {
	f := api.Frame{Ext: c.below(2) == 1, Remote: c.below(4) == 0, Dlc: int(c.below(9))}
	f.Id = c.below(1 << 11)
	if f.Ext {
		f.Id = c.below(1 << 29)
	}
	if f.Remote {
		return f
	}
	// Many bits alike, so that many are stuffed.
	for range f.Dlc {
		f.Data += string([]byte{"\x00\xFF\x00\xFF\x1F\xE0\x55"[c.below(7)] ^ byte(c.below(2)*c.below(256))})
	}
	return f
}

func TestExamples(t *testing.T) {
	f := api.Frame{Id: 5, Dlc: 1, Data: "x"}
	row := strings.Repeat("1", 11) + bitsOf(f)
	_, l := fed(t, New(), row)
	for i, v := range l {
		want := api.Event{}
		if i == len(l)-2 {
			want = api.Event{Kind: api.VCame, Frame: f}
		}
		if v != want {
			t.Errorf("at %d: %+v", i, v)
		}
	}
	head := headOf(api.Frame{Id: 0x555, Dlc: 8, Data: strings.Repeat("\xAA", 8)})
	c, _ := fed(t, idle(t), stuffed(head)[:30]+"1")
	_, l = fed(t, c, "0000000")
	for i, v := range l {
		want := api.Event{}
		if i == 5 {
			want = api.Event{Kind: api.VError, Bad: api.ErrStuff}
		}
		if v != want {
			t.Errorf("at %d: %+v", i, v)
		}
	}
}

func TestFramesComeAndAreSent(t *testing.T) {
	fs := someFrames()
	for c, i := chance(7), 0; i < 60; i++ {
		fs = append(fs, c.frame())
	}
	for _, f := range fs {
		row := told(bitsOf(f))
		n := len(row)
		c, l := fed(t, idle(t), row)
		if l[n-2] != (api.Event{Kind: api.VCame, Frame: f}) || c != (api.Ctl{State: api.SGap}) {
			t.Errorf("%+v: %+v, %+v", f, l[n-2], c)
		}
		d, k := fed(t, idle(t, f), row)
		if k[n-1] != (api.Event{Kind: api.VSent, Frame: f}) || d != (api.Ctl{State: api.SGap, Was: true}) {
			t.Errorf("%+v: %+v, %+v", f, k[n-1], d)
		}
		l[n-2], k[n-1] = api.Event{}, api.Event{}
		for i := range n {
			if l[i] != (api.Event{}) || k[i] != (api.Event{}) {
				t.Errorf("%+v at %d: %+v, %+v", f, i, l[i], k[i])
			}
		}
	}
}

// One that joins late hears nothing of a frame whose beginning it has not heard.
func TestOneThatJoinsHearsTheNextFrame(t *testing.T) {
	f, g := api.Frame{Id: 5, Dlc: 2, Data: "ab"}, api.Frame{Id: 6}
	for k := range 40 {
		_, l := fed(t, New(), told(bitsOf(f))[k:]+"111"+told(bitsOf(g))+"111")
		n := 0
		for _, v := range l {
			if v.Kind != api.VNone {
				n++
			}
			if v.Kind != api.VNone && (v != api.Event{Kind: api.VCame, Frame: g}) {
				t.Errorf("%+v", v)
			}
		}
		// Seven recessive bits, and three, and the one ahead of these are eleven.
		if n != 1 {
			t.Errorf("%d things happened", n)
		}
	}
}

func TestThoseThatContend(t *testing.T) {
	c := chance(3)
	for range 40 {
		w := newWire(t, 4)
		fs := make([]api.Frame, 4)
		for i := range fs {
			fs[i] = c.frame()
			w.ctls[i] = submitted(t, w.ctls[i], fs[i])
		}
		w.run(4*(160+3) + 20)
		var sent []string
		for i, f := range fs {
			got := w.of(i, api.VSent)
			if len(got) != 1 || got[0] != f || len(w.of(i, api.VError)) != 0 || w.ctls[i].Count != (api.Count{}) {
				t.Fatalf("%+v: %+v, %+v", f, w.seen[i], w.ctls[i])
			}
			sent = append(sent, headOf(f))
			if len(w.of(i, api.VCame)) != 3 {
				t.Fatalf("%+v: %+v", f, w.seen[i])
			}
		}
		// They came in the order of what they begin with, as texts are ordered.
		for i := range fs {
			came := w.of(i, api.VCame)
			for k := 1; k < len(came); k++ {
				if headOf(came[k-1]) > headOf(came[k]) {
					t.Errorf("%q: %+v", sent, came)
				}
			}
		}
	}
}

// One bit that one of three sees turned: in the end the frame is sent once, and has come to all others.
func TestOneTurnedBit(t *testing.T) {
	for _, f := range []api.Frame{{Id: 5}, {Id: 0x7C1, Remote: true, Dlc: 8}, {Id: 0x78, Dlc: 2, Data: "\x0F\x83"}, {Id: 0x15555555, Ext: true, Dlc: 1, Data: "b"}} {
		n := len(bitsOf(f))
		for at := range n + 3 {
			for who := range 3 {
				w := newWire(t, 3)
				w.ctls[0] = submitted(t, w.ctls[0], f)
				w.run(at)
				w.step(who)
				w.run(3*n + 80)
				if sent := w.of(0, api.VSent); len(sent) != 1 || sent[0] != f {
					t.Fatalf("%+v turned at %d for %d: %+v", f, at, who, w.seen[0])
				}
				for i := 1; i < 3; i++ {
					came := w.of(i, api.VCame)
					if len(came) == 0 || len(came) > 2 || came[0] != f || came[len(came)-1] != f {
						t.Fatalf("%+v turned at %d for %d: %+v", f, at, who, w.seen[i])
					}
					if at < n-2 && len(came) > 1 && w.last[1] != w.last[2] {
						t.Fatalf("%+v turned at %d for %d: not at once: %+v", f, at, who, w.last)
					}
				}
				for i, c := range w.ctls {
					if c.State != api.SIdle || c.Has || c.Count.Tec > 15 || c.Count.Rec > 16 {
						t.Fatalf("%+v turned at %d for %d: %d is %+v", f, at, who, i, c)
					}
				}
			}
		}
	}
}

// One that is alone errs sixteen times; then it is passive, and counts no more of these, however long it goes on.
func TestOneThatIsAlone(t *testing.T) {
	w := newWire(t, 1)
	w.ctls[0] = submitted(t, w.ctls[0], api.Frame{Id: 5})
	w.run(5000)
	l := w.seen[0]
	if len(l) < 40 || w.ctls[0].Count != (api.Count{Tec: 128}) || !w.ctls[0].Has {
		t.Errorf("%d errors, %+v", len(l), w.ctls[0])
	}
	for _, v := range l {
		if v != (api.Event{Kind: api.VError, Bad: api.ErrAck}) {
			t.Errorf("%+v", v)
		}
	}
	// One that joins has it sent.
	w.ctls = append(w.ctls, New())
	w.seen, w.last = append(w.seen, nil), append(w.last, 0)
	w.run(400)
	if sent, came := w.of(0, api.VSent), w.of(1, api.VCame); len(sent) != 1 || len(came) != 1 || w.ctls[0].Count.Tec != 127 {
		t.Errorf("%+v, %+v, %+v", sent, came, w.ctls[0])
	}
}

// A passive one that sent waits for eight bits more, in which others begin.
func TestPassiveOnesHold(t *testing.T) {
	f := api.Frame{Id: 5}
	c := idle(t, f)
	c.Count.Tec = 200
	c, _ = fed(t, c, told(bitsOf(f))+"111")
	if c.State != api.SHold || c.N != 0 || c.Count.Tec != 199 {
		t.Fatalf("%+v", c)
	}
	c = submitted(t, c, f)
	for range 8 {
		isDrive(t, c, '1')
		d, _ := fed(t, c, "0")
		if d.State != api.SFrame || d.Sends || d.Was || !d.Has {
			t.Errorf("%+v", d)
		}
		c, _ = fed(t, c, "1")
	}
	isDrive(t, c, '0')
}

// One that is off goes on behind 128 times eleven recessive bits, and sends what it has then.
func TestOneThatWasOff(t *testing.T) {
	f := api.Frame{Id: 5}
	c := idle(t, f)
	c.Count.Tec = 250
	c, _ = fed(t, c, "01")
	if c.State != api.SOff || c.Count != (api.Count{Off: true, Rest: 128}) {
		t.Fatalf("%+v", c)
	}
	rests := strings.Repeat("1111111111"+"0"+"11111111111", 127)
	c, l := fed(t, c, rests+"1111111111")
	if c.State != api.SOff || c.Count.Rest != 1 || c.N != 10 {
		t.Fatalf("%+v", c)
	}
	for _, v := range l {
		if v != (api.Event{}) {
			t.Errorf("%+v", v)
		}
	}
	isDrive(t, c, '1')
	c, _ = fed(t, c, "1")
	if c != (api.Ctl{State: api.SIdle, Was: true, Has: true, Frame: f}) {
		t.Fatalf("%+v", c)
	}
	isDrive(t, c, '0')
}

// Dominant bits without an end: a sender is off by them, one that listens never is.
func TestDominantBitsWithoutAnEnd(t *testing.T) {
	row := strings.Repeat("0", 6+6+8*40)
	c, _ := fed(t, idle(t), row)
	if c.State != api.SEcho || c.Count != (api.Count{Rec: 255}) {
		t.Errorf("%+v", c)
	}
	// It errs at its sixth bit, a stuffed one: a Tec of 8; then each eight bits behind its flag are eight more.
	c = idle(t, api.Frame{})
	c, _ = fed(t, c, strings.Repeat("0", 6+6+8*30))
	if c.State != api.SEcho || c.Count.Tec != 248 || c.N != 240 {
		t.Errorf("%+v", c)
	}
	c, _ = fed(t, c, strings.Repeat("0", 8))
	if c.State != api.SOff {
		t.Errorf("%+v", c)
	}
}

// others are bits that others put on a bus: they are silent, send a frame that comes, or are noise.
func (c *chance) others() string {
	switch c.below(3) {
	case 0:
		return strings.Repeat("1", int(1+c.below(30)))
	case 1:
		return told(bitsOf(c.frame())) + strings.Repeat("1", int(c.below(5)))
	}
	noise := ""
	for range 1 + c.below(12) {
		noise += "01"[c.below(2):][:1]
	}
	return noise
}

// What may be stays such at any bits, and is what all bits of a frame tell.
func TestAnyBits(t *testing.T) {
	kinds, states := map[api.Event]int{}, map[int]int{}
	for seed := range chance(80) {
		ch := seed * 977
		c := New()
		c.Count = someCounts()[ch.below(13)]
		if seed%8 == 0 {
			c = api.Ctl{State: api.SOff, Count: api.Count{Off: true, Rest: 2}}
		}
		had, others := "", ""
		for range 5000 {
			if !c.Has && ch.below(20) == 0 {
				c = submitted(t, c, ch.frame())
			}
			if others == "" {
				others = ch.others()
			}
			if c.Sends && len(c.Got) > 32 {
				others = "1"
			}
			bit, _ := Drive(c)
			bit, others = min(bit, others[0]), others[1:]
			if c.Sends && c.End && c.Tail == 1 {
				bit = "0001"[ch.below(4)]
			}
			if ch.below(200) == 0 {
				bit ^= 1
			}
			d, v, e := Sample(c, bit)
			if e != api.OK || !Right(d) {
				t.Fatalf("Sample(%+v, %c) = %+v, %+v, %d", c, bit, d, v, e)
			}
			if c.State == api.SFrame {
				want, v2 := next(c, had, bit)
				if d != want || v != v2 {
					t.Fatalf("Sample(%+v, %c) = %+v, %+v;\nwant %+v, %+v", c, bit, d, v, want, v2)
				}
				had += string(rune(bit))
			} else {
				had = string(rune(bit))
			}
			kinds[api.Event{Kind: v.Kind, Bad: v.Bad}]++
			states[d.State]++
			c = d
		}
	}
	// All that may happen did, so that none of it went by untold.
	if len(kinds) != 9 || len(states) != 9 {
		t.Errorf("%+v, %+v", kinds, states)
	}
}

// Whatever is handed in, if it may be: what comes of either bit may be, too, and at most one thing happens, of those that there are.
func TestWhatMayBeStaysSuch(t *testing.T) {
	see := func(c api.Ctl) {
		for _, bit := range []byte{'0', '1'} {
			d, v, e := Sample(c, bit)
			if e != api.OK || !Right(d) || v.Kind < api.VNone || v.Kind > api.VLost || (v.Bad != api.OK) != (v.Kind == api.VError) {
				t.Errorf("Sample(%+v, %c) = %+v, %+v, %d", c, bit, d, v, e)
			}
		}
	}
	someControllers(see)
	// Of those that listen, what stuffing knows may be any.
	for _, f := range someFrames() {
		row := bitsOf(f)
		for k := 1; k < len(row)-10; k++ {
			for n := 1; n <= 5; n++ {
				for _, last := range []byte{'0', '1'} {
					c := behind(api.Ctl{Has: true, Frame: f}, row[:k])
					c.Stuff = api.Stuffer{Last: last, N: n}
					if Right(c) {
						see(c)
					}
				}
			}
		}
	}
}

// R1, R4: a second call answers the same, whatever was asked between.

func TestNothingIsKept(t *testing.T) {
	f := api.Frame{Id: 5}
	c := sending(f, 8)
	for range 2 {
		want, v := next(c, bitsOf(f)[:8], '0')
		isSample(t, c, '0', want, v)
		isSample(t, c, '0', want, v)
		isDrive(t, c, bitsOf(f)[8])
		if d, e := Submit(c, f); d != (api.Ctl{}) || e != api.ErrBusy {
			t.Errorf("%+v, %d", d, e)
		}
		isRight(t, c, true)
	}
}

// P1: no call panics, whatever it is given; a panic here ends the test.

func FuzzNoCallPanics(f *testing.F) {
	f.Add(0, 0, 0, 0, 0, uint32(5), 1, "x", "", 0, byte(0), 0, "", 0, byte('1'))
	f.Add(1, 0, 8, 0, 0, uint32(5), 1, "x", "", 0, byte(0), 0, "", 0, byte('0'))
	f.Add(2, 0, 0x38, 0, 0, uint32(5), 0, "", "00000000010100000110", 1, byte('0'), 1, "0", 0, byte('1'))
	f.Add(2, 0, 0, 0, 0, uint32(0), 0, "", "", 0, byte('0'), 1, "0", 0, byte('1'))
	f.Add(2, 0, 0x1C0, 255, 255, uint32(0), 0, "", "", 0, byte('1'), 4, "0000000001010000000", 9, byte('0'))
	f.Add(8, 10, 0x200, 0, 0, uint32(0), 0, "", "", 0, byte(0), 0, "", 0, byte('1'))
	f.Add(math.MinInt, math.MaxInt, math.MaxInt, math.MinInt, math.MaxInt, uint32(math.MaxUint32), math.MinInt, "x", "1", math.MaxInt, byte(255), math.MinInt, "2", math.MinInt, byte(2))
	f.Fuzz(func(t *testing.T, state, n, flags, tec, rec int, id uint32, dlc int, data, out string, at int, last byte, equal int, got string, tail int, bit byte) {
		is := func(i int) bool { return flags>>i&1 > 0 }
		c := api.Ctl{
			Count: api.Count{Tec: tec, Rec: rec, Off: is(9), Rest: b2i(is(9)) * 128}, State: state, N: n, Was: is(0), Hard: is(1), Has: is(3),
			Frame: api.Frame{Id: id, Ext: is(2), Remote: is(10), Dlc: dlc, Data: data}, Sends: is(4), Out: out, At: at,
			Stuff: api.Stuffer{Last: last, N: equal}, Got: got, End: is(6), Tail: tail, Good: is(7),
		}
		may := Right(c)
		_, e := Drive(c)
		d, v, e2 := Sample(c, bit)
		s, e3 := Submit(c, c.Frame)
		k, e4 := Cancel(c)
		if may != (e == api.OK) || may && e4 == api.ErrArg || !may && (e2 != api.ErrArg || e3 != api.ErrArg || e4 != api.ErrArg) {
			t.Errorf("%+v: %v, %d, %d, %d, %d", c, may, e, e2, e3, e4)
		}
		if e2 == api.OK != (may && (bit == '0' || bit == '1')) || e2 == api.OK && !Right(d) || e2 != api.OK && v != (api.Event{}) {
			t.Errorf("%+v, %d: %+v, %+v, %d", c, bit, d, v, e2)
		}
		if e3 == api.OK && !Right(s) || e4 == api.OK && !Right(k) {
			t.Errorf("%+v: %+v, %d, %+v, %d", c, s, e3, k, e4)
		}
	})
}
