package bus

import (
	"slices"
	"strings"
	"testing"

	"campanile/api"
	"campanile/prio"
)

// P8.3

// waits is a frame, and who has it to send.
type waits struct {
	who int
	row string
	f   api.Frame
}

// lostAt is the first bit of two rows that is unlike.
func lostAt(a, b string) int {
	at := 0
	for a[at] == b[at] {
		at++
	}
	return at
}

// told is all that happens to n controllers of which some have frames to send, from a bit on at which all begin.
func told(from, n int, l []waits) []api.Seen {
	// Of two rows the one wins that is the lesser text: it has `0` where they are unlike at first.
	l = slices.Clone(l)
	slices.SortFunc(l, func(a, b waits) int { return strings.Compare(a.row, b.row) })
	var all []api.Seen
	for i, x := range l {
		var lost []api.Seen
		for _, y := range l[i+1:] {
			lost = append(lost, api.Seen{At: from + lostAt(x.row, y.row), Who: y.who, Event: api.Event{Kind: api.VLost}})
		}
		slices.SortFunc(lost, func(a, b api.Seen) int { return (a.At-b.At)*4 + a.Who - b.Who })
		all = append(all, lost...)
		end := from + len(x.row)
		for who := range n {
			if who != x.who {
				all = append(all, api.Seen{At: end - 2, Who: who, Event: api.Event{Kind: api.VCame, Frame: x.f}})
			}
		}
		all = append(all, api.Seen{At: end - 1, Who: x.who, Event: api.Event{Kind: api.VSent, Frame: x.f}})
		from = end + 3
	}
	return all
}

// sent are the frames that were sent, in order.
func sent(l []api.Seen) []api.Frame {
	var fs []api.Frame
	for _, s := range l {
		if s.Event.Kind == api.VSent {
			fs = append(fs, s.Event.Frame)
		}
	}
	return fs
}

// isPlay holds what happens where some have frames to send.
func isPlay(t *testing.T, b api.Bus, from, n int, l []waits) {
	t.Helper()
	want := told(from, n, l)
	end, got := ran(t, b, 700)
	if !slices.Equal(got, want) {
		t.Fatalf("%+v:\n%+v\nwant %+v", l, got, want)
	}
	for _, c := range end.Ctls {
		if c.Has || c.Count != (api.Count{}) || c.State != api.SIdle {
			t.Fatalf("%+v: %+v", l, c)
		}
	}
}

func TestTheExample(t *testing.T) {
	b := submitted(t, submitted(t, joined(t, 2), 0, api.Frame{Id: 3}), 1, api.Frame{Id: 5})
	_, l := ran(t, b, 120)
	f, g := api.Frame{Id: 3}, api.Frame{Id: 5}
	at := 11 + len(rowOf(f))
	then := at + 3 + len(rowOf(g))
	// Their bits begin with `00000100000` and `00000100001`, a stuffed one among them: the 5 loses at the last of these.
	want := []api.Seen{
		{At: 11 + 10, Who: 1, Event: api.Event{Kind: api.VLost}},
		{At: at - 2, Who: 1, Event: api.Event{Kind: api.VCame, Frame: f}},
		{At: at - 1, Who: 0, Event: api.Event{Kind: api.VSent, Frame: f}},
		{At: then - 2, Who: 0, Event: api.Event{Kind: api.VCame, Frame: g}},
		{At: then - 1, Who: 1, Event: api.Event{Kind: api.VSent, Frame: g}},
	}
	if !slices.Equal(l, want) {
		t.Errorf("%+v", l)
	}
}

func TestFramesGoInTheirOrder(t *testing.T) {
	ch := chance(5)
	for i := range 300 {
		n := 2 + i%3
		b := joined(t, n)
		b, _ = ran(t, b, int(ch.below(9)))
		from := b.Now
		var l []waits
		for who, f := range ch.frames(n) {
			if ch.below(4) > 0 {
				b = submitted(t, b, who, f)
				l = append(l, waits{who: who, row: rowOf(f), f: f})
			}
		}
		isPlay(t, b, from, n, l)
	}
}

// prio tells the same of the order of such frames.
func TestFramesGoAsTheyWin(t *testing.T) {
	ch := chance(9)
	for range 60 {
		b := joined(t, 4)
		fs := ch.frames(4)
		for who, f := range fs {
			b = submitted(t, b, who, f)
		}
		want, e := prio.Order(fs)
		if e != api.OK {
			t.Fatal(e)
		}
		_, l := ran(t, b, 700)
		if got := sent(l); !slices.Equal(got, want) {
			t.Errorf("%+v: %+v", want, got)
		}
	}
}

// Those with the least unlike fields: of one Id, as data, as a request, as Ext, and as an Ext request.
func TestFramesOfOneId(t *testing.T) {
	fs := []api.Frame{
		{Id: 0x7C1, Dlc: 1, Data: "x"}, {Id: 0x7C1, Remote: true, Dlc: 8}, {Id: 0x7C1 << 18, Ext: true, Dlc: 2, Data: "ab"}, {Id: 0x7C1 << 18, Ext: true, Remote: true},
	}
	for turn := range 4 {
		b := joined(t, 4)
		var l []waits
		for i, f := range fs {
			who := (i + turn) % 4
			b = submitted(t, b, who, f)
			l = append(l, waits{who: who, row: rowOf(f), f: f})
		}
		isPlay(t, b, 11, 4, l)
		_, seen := ran(t, b, 700)
		if got := sent(seen); !slices.Equal(got, fs) {
			t.Errorf("%+v", got)
		}
	}
}

// What is submitted ahead of the joining waits for that.
func TestFramesWaitForTheJoining(t *testing.T) {
	ch := chance(21)
	for i := range 40 {
		n := 2 + i%3
		b, _ := New(n)
		b, _ = ran(t, b, int(ch.below(11)))
		var l []waits
		for who, f := range ch.frames(n) {
			b = submitted(t, b, who, f)
			l = append(l, waits{who: who, row: rowOf(f), f: f})
		}
		isPlay(t, b, 11, n, l)
	}
}

// One that joins later, of three: the frame that goes on then is none of its own, those behind it come to it, too.
func TestOneThatJoinsLater(t *testing.T) {
	f, g := api.Frame{Id: 5, Dlc: 1, Data: "x"}, api.Frame{Id: 6 << 18, Ext: true}
	for far := range 11 {
		b := api.Bus{Ctls: []api.Ctl{idle(f), idle(g), behind(strings.Repeat("1", far))}}
		_, l := ran(t, b, 300)
		ends := len(rowOf(f)) + 3
		want := told(0, 2, []waits{{who: 0, row: rowOf(f), f: f}})
		want = slices.Insert(want, 0, api.Seen{At: lostAt(rowOf(f), rowOf(g)), Who: 1, Event: api.Event{Kind: api.VLost}})
		want = append(want, told(ends, 3, []waits{{who: 1, row: rowOf(g), f: g}})...)
		if !slices.Equal(l, want) {
			t.Errorf("%d: %+v;\nwant %+v", far, l, want)
		}
	}
}

// What is submitted while a frame goes on is sent behind it, and behind what wins against it.
func TestFramesThatAreSubmittedLater(t *testing.T) {
	f, g, h := api.Frame{Id: 0x700}, api.Frame{Id: 5, Dlc: 1, Data: "x"}, api.Frame{Id: 3, Ext: true}
	n := len(rowOf(f))
	for at := 1; at <= n+2; at++ {
		b := submitted(t, joined(t, 3), 0, f)
		b, l := ran(t, b, at)
		b = submitted(t, submitted(t, b, 2, h), 1, g)
		_, more := ran(t, b, 400)
		want := told(11, 3, []waits{{who: 0, row: rowOf(f), f: f}})
		want = append(want, told(11+n+3, 3, []waits{{who: 1, row: rowOf(g), f: g}, {who: 2, row: rowOf(h), f: h}})...)
		if got := append(l, more...); !slices.Equal(got, want) {
			t.Errorf("at %d: %+v;\nwant %+v", at, got, want)
		}
	}
}

// One that is alone has none that tells it that its frame came.
func TestOneAlone(t *testing.T) {
	b := submitted(t, joined(t, 1), 0, api.Frame{Id: 5})
	b, l := ran(t, b, 20000)
	if len(l) < 100 || b.Ctls[0].Count != (api.Count{Tec: 128}) || !b.Ctls[0].Has {
		t.Errorf("%d events, %+v", len(l), b)
	}
	for _, s := range l {
		if s.Who != 0 || s.Event != (api.Event{Kind: api.VError, Bad: api.ErrAck}) {
			t.Errorf("%+v", s)
		}
	}
}
