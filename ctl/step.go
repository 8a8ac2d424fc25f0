package ctl

import (
	"campanile/api"
	"campanile/count"
	"campanile/frame"
	"campanile/prio"
	"campanile/stuff"
)

// machine is a controller on its way through one bit, with what happened at it.
type machine struct {
	api.Ctl
	event api.Event
}

// steps has, for all states, what a bit of the bus makes of a controller.
func steps() [states]func(m *machine, bus byte) {
	return [states]func(m *machine, bus byte){
		api.SJoin:  (*machine).join,
		api.SIdle:  (*machine).idle,
		api.SFrame: (*machine).through,
		api.SFlag:  (*machine).flag,
		api.SEcho:  (*machine).echo,
		api.SDelim: (*machine).delim,
		api.SGap:   (*machine).gap,
		api.SHold:  (*machine).hold,
		api.SOff:   (*machine).rest,
	}
}

func (m *machine) join(bus byte) {
	if m.rested(bus) {
		m.enter(api.SIdle)
	}
}

func (m *machine) idle(bus byte) {
	if bus == '0' {
		m.begin(m.Has)
	}
}

func (m *machine) through(bus byte) {
	switch {
	case !m.End:
		m.contend(bus)
	case m.Tail < lastAt:
		m.tail(bus)
	default:
		m.last(bus)
	}
}

func (m *machine) flag(byte) {
	m.N++
	if m.N == flagBits {
		m.enter(api.SEcho)
	}
}

func (m *machine) echo(bus byte) {
	if bus == '1' {
		m.enter(api.SDelim)
		m.N = 1
		return
	}
	m.N = min(m.N+1, mostEcho)
	// A sender does not count the first one: it may be another one's flag, that answers its own.
	if m.N == 1 && !m.Was || m.N%badBits == 0 {
		m.count(pick(m.Was, api.CSendBad, api.CComeBad))
	}
	if m.Count.Off {
		m.enter(api.SOff)
	}
}

func (m *machine) delim(bus byte) {
	if bus == '0' {
		m.enter(api.SFlag)
		return
	}
	m.N++
	if m.N == delimBits {
		m.enter(api.SGap)
	}
}

func (m *machine) gap(bus byte) {
	switch {
	case bus == '0' && m.N < gapBits-1:
		m.overload()
	case bus == '0':
		m.begin(false)
	case m.N < gapBits-1:
		m.N++
	case m.Was && m.is(api.Passive):
		// Others may begin ahead of a passive one that sent last.
		m.enter(api.SHold)
	default:
		m.enter(api.SIdle)
	}
}

func (m *machine) hold(bus byte) {
	if bus == '0' {
		m.begin(false)
		return
	}
	m.N++
	if m.N == holdBits {
		m.enter(api.SIdle)
	}
}

func (m *machine) rest(bus byte) {
	if !m.rested(bus) {
		return
	}
	m.N = 0
	m.count(api.CRest)
	if !m.Count.Off {
		m.enter(api.SIdle)
	}
}

// rested counts recessive bits one behind the other, and tells whether these are enough.
func (m *machine) rested(bus byte) bool {
	if bus == '0' {
		m.N = 0
		return false
	}
	m.N++
	return m.N == restBits
}

// contend takes a bit ahead of a frame's end; a sender whose bit another one wins against listens from then on.
func (m *machine) contend(bus byte) {
	if m.Sends && m.Out[m.At] != bus {
		if !m.mayLose() {
			m.fail(api.ErrBit)
			return
		}
		m.event.Kind = api.VLost
		m.Sends, m.Out, m.At, m.Was = false, "", 0, false
	}
	m.take(bus)
}

// mayLose tells whether a sender is at a bit at which another one may win: no stuffed one.
func (m *machine) mayLose() bool {
	field, _ := prio.Field(m.Frame)
	return m.Out[m.At] == '1' && len(m.Got) <= len(field) && m.Stuff.N < full
}

// take takes a bit of those that are stuffed.
func (m *machine) take(bus byte) {
	knows, kind, _ := stuff.Step(m.Stuff, bus)
	switch kind {
	case api.KError:
		m.fail(api.ErrStuff)
		return
	case api.KData:
		m.Got += string([]byte{bus})
		if _, e := frame.Size(m.Got); e == api.ErrForm {
			m.fail(api.ErrForm)
			return
		}
	}
	m.Stuff = knows
	m.goOn()
	m.End = isWhole(m.Ctl)
	m.Good = isGood(m.Ctl)
}

// tail takes a bit of those behind the sum, but the last one.
func (m *machine) tail(bus byte) {
	if bad := m.fault(bus); bad != api.OK {
		m.fail(bad)
		return
	}
	if m.Tail == cameAt && !m.Sends {
		m.event.Kind = api.VCame
		m.event.Frame, _ = came(m.Ctl)
		m.count(api.CCame)
	}
	m.Tail++
	m.goOn()
}

// fault is the error of a bit behind the sum.
func (m *machine) fault(bus byte) api.Errno {
	switch {
	case m.Tail == toldAt && m.Sends && bus == '1':
		return api.ErrAck
	case m.Tail != toldAt && bus == '0':
		return api.ErrForm
	case m.Tail == sumAt && !m.Sends && !m.Good:
		return api.ErrCrc
	}
	return api.OK
}

// last takes a frame's last bit: only its sender minds, if that is dominant; others have it already, and ask for time.
func (m *machine) last(bus byte) {
	switch {
	case bus == '0' && m.Sends:
		m.fail(api.ErrForm)
		return
	case bus == '0':
		m.overload()
		return
	case m.Sends:
		m.event = api.Event{Kind: api.VSent, Frame: m.Frame}
		m.count(api.CSent)
		m.Has, m.Frame = false, api.Frame{}
	}
	m.enter(api.SGap)
}

// goOn moves a sender to its next bit.
func (m *machine) goOn() {
	if m.Sends {
		m.At++
	}
}

// begin begins a frame, whose first bit is on the bus.
func (m *machine) begin(sends bool) {
	m.enter(api.SFrame)
	m.Stuff, m.Got = api.Stuffer{Last: '0', N: 1}, "0"
	m.Sends, m.Was = sends, sends
	if sends {
		m.Out, _ = frame.Bits(m.Frame)
		m.At = 1
	}
}

// fail ends a frame by an error.
func (m *machine) fail(bad api.Errno) {
	m.event = api.Event{Kind: api.VError, Bad: bad}
	m.Was = m.Sends
	// One that is alone, and passive, would else be off soon, though nothing is broken.
	if bad != api.ErrAck || !m.is(api.Passive) {
		m.count(pick(m.Sends, api.CSendErr, api.CComeErr))
	}
	if m.Count.Off {
		m.enter(api.SOff)
		return
	}
	m.Hard = m.is(api.Active)
	m.enter(api.SFlag)
}

// overload begins a flag that is no error's, so that it is dominant whatever was counted.
func (m *machine) overload() {
	m.Hard = true
	m.enter(api.SFlag)
}

// enter begins a state, with nothing of a frame that went through.
func (m *machine) enter(state int) {
	m.Ctl = outside(m.Ctl)
	m.State, m.N = state, 0
}

// count counts what happened: that has no error, of a count that may be.
func (m *machine) count(what int) { m.Count, _ = count.Step(m.Count, what) }

// is tells whether the errors that were counted stand so.
func (m *machine) is(state int) bool {
	now, _ := count.State(m.Count)
	return now == state
}

// pick is what a sender counts, or what others do.
func pick(sends bool, sender, other int) int {
	if sends {
		return sender
	}
	return other
}
