package ctl

import (
	"campanile/api"
	"campanile/crc"
	"campanile/frame"
	"campanile/stuff"
)

// isPlace tells whether a state may be, and how far a controller is in it.
func isPlace(state, n int) bool {
	switch state {
	case api.SJoin, api.SOff:
		return within(n, 0, restBits-1)
	case api.SIdle, api.SFrame:
		return n == 0
	case api.SFlag:
		return within(n, 0, flagBits-1)
	case api.SEcho:
		return within(n, 0, mostEcho)
	case api.SDelim:
		return within(n, 1, delimBits-1)
	case api.SGap:
		return within(n, 0, gapBits-1)
	case api.SHold:
		return within(n, 0, holdBits-1)
	}
	return false
}

// within tells whether a number lies within two, both of them among those.
func within(n, low, high int) bool { return n >= low && n <= high }

// isOwn tells whether what a controller has to send may be.
func isOwn(c api.Ctl) bool {
	if c.Has {
		return frame.Right(c.Frame)
	}
	return c.Frame == api.Frame{}
}

// outside is a controller with nothing of a frame that goes through.
func outside(c api.Ctl) api.Ctl {
	c.Sends, c.Out, c.At = false, "", 0
	c.Stuff, c.Got = api.Stuffer{}, ""
	c.End, c.Tail, c.Good = false, 0, false
	return c
}

// isGot tells whether the bits that a controller got of a frame may be, and what stuffing knows of them.
func isGot(c api.Ctl) bool {
	if len(c.Got) == 0 || len(c.Got) > mostGot || c.Got[0] != '0' || !stuff.Right(c.Stuff) || c.Stuff.N == 0 {
		return false
	}
	// Of what is no row Size tells ErrArg.
	n, e := frame.Size(c.Got)
	return e == api.ErrShort || e == api.OK && len(c.Got) <= n+sumBits
}

// isEnd tells whether it stands right how far a frame is whose bits may be.
func isEnd(c api.Ctl) bool {
	if c.End != isWhole(c) || c.Good != isGood(c) {
		return false
	}
	if !c.End {
		return c.Tail == 0
	}
	return within(c.Tail, 0, lastAt)
}

// isWhole tells whether a frame's bits are there up to the end of its sum, and what is stuffed behind that.
func isWhole(c api.Ctl) bool {
	n, e := frame.Size(c.Got)
	return e == api.OK && len(c.Got) == n+sumBits && c.Stuff.N < full
}

// isGood tells whether what came up to a frame's end is one.
func isGood(c api.Ctl) bool {
	if !c.End || !crc.Check(c.Got) {
		return false
	}
	_, e := came(c)
	return e == api.OK
}

// came is the frame of a controller that is at its end.
func came(c api.Ctl) (api.Frame, api.Errno) { return frame.Read(c.Got[:len(c.Got)-sumBits]) }

// isSending tells whether a controller's own bits may be, and the place in them, at a frame's end or ahead of it.
func isSending(c api.Ctl) bool {
	if !c.Sends {
		return c.Out == "" && c.At == 0
	}
	if !c.Has {
		return false
	}
	out, _ := frame.Bits(c.Frame)
	end := len(out) - tailBits
	if c.Out != out || c.End && c.At != end+c.Tail || !c.End && !within(c.At, 1, end-1) {
		return false
	}
	knows, got := taken(out[:min(c.At, end)])
	return c.Stuff == knows && c.Got == got
}

// taken is what stuffing knows behind bits that are stuffed, and those of them that are data.
func taken(row string) (api.Stuffer, string) {
	var knows api.Stuffer
	got := make([]byte, 0, len(row))
	for i := range len(row) {
		next, kind, _ := stuff.Step(knows, row[i])
		if kind == api.KData {
			got = append(got, row[i])
		}
		knows = next
	}
	return knows, string(got)
}
