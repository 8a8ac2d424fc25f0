package count

import (
	"math"
	"testing"

	"campanile/api"
)

// allCounts goes through all counts that may be.
func allCounts(see func(c api.Count)) {
	for tec := range 256 {
		for rec := range 256 {
			see(api.Count{Tec: tec, Rec: rec})
		}
	}
	for left := range 128 {
		see(api.Count{Off: true, Rest: left + 1})
	}
}

// allSteps goes through all that is counted.
func allSteps() []int {
	return []int{
		api.CSent, api.CCame, api.CSendErr, api.CComeErr, api.CSendBad, api.CComeBad, api.CRest,
	}
}

// wrongCounts holds counts that may not be: each number out of its bounds, alone and beside others.
func wrongCounts() []api.Count {
	wrong := []api.Count{{Off: true}, {Off: true, Rest: 129}, {Tec: 1, Off: true}, {Rec: 1, Off: true}}
	for _, n := range []int{-1, -8, -255, 256, 257, 263, 264, 1 << 32, math.MaxInt, math.MaxInt - 7, math.MinInt, math.MinInt + 1} {
		wrong = append(wrong,
			api.Count{Tec: n}, api.Count{Rec: n}, api.Count{Tec: n, Rec: n},
			api.Count{Tec: n, Rec: 5}, api.Count{Tec: 5, Rec: n},
			api.Count{Tec: n, Rec: -n}, api.Count{Tec: 255, Rec: n}, api.Count{Tec: n, Rec: 255},
			api.Count{Tec: n, Off: true, Rest: 5}, api.Count{Rec: n, Off: true, Rest: 5},
			api.Count{Rest: n}, api.Count{Off: true, Rest: n},
		)
	}
	for _, n := range []int{1, 2, 127, 128, 255} {
		wrong = append(wrong,
			api.Count{Rest: n}, api.Count{Tec: 5, Rest: n}, api.Count{Rec: 5, Rest: n},
			api.Count{Tec: n, Off: true, Rest: 1}, api.Count{Rec: n, Off: true, Rest: 128},
			api.Count{Tec: n, Rec: n, Off: true, Rest: 5}, api.Count{Tec: n, Off: true},
		)
	}
	for _, n := range []int{0, -1, -128, 129, 130, 256} {
		wrong = append(wrong, api.Count{Off: true, Rest: n})
	}
	return wrong
}

// wrongSteps holds what is not counted.
func wrongSteps() []int {
	return []int{0, 8, 9, -1, -7, 255, 256, 257, 1<<32 + 1, math.MaxInt, math.MinInt, math.MinInt + 1}
}

// next is what a count becomes, going there one by one: another way to it.
func next(c api.Count, what int) api.Count {
	up, down := &c.Rec, &c.Rec
	more, less := 0, 0
	switch what {
	case 1:
		down, less = &c.Tec, 1
	case 2:
		less = 1
		for *down > 128 {
			*down--
		}
		if *down == 128 {
			less = 9
		}
	case 3, 5:
		up, more = &c.Tec, 8
	case 4:
		more = 1
	case 6:
		more = 8
	case 7:
		if c.Rest > 0 {
			c.Rest--
		}
		c.Off = c.Rest != 0
		return c
	}
	if c.Off {
		return c
	}
	for range less {
		if *down > 0 {
			*down--
		}
	}
	for range more {
		if *up == 255 {
			if up == &c.Tec {
				return api.Count{Off: true, Rest: 128}
			}
			break
		}
		*up++
	}
	return c
}

// isStep holds what Step answers.
func isStep(t *testing.T, c api.Count, what int, want api.Count, e api.Errno) {
	t.Helper()
	if got, e2 := Step(c, what); got != want || e2 != e {
		t.Errorf("Step(%+v, %d) = %+v, %d; want %+v, %d", c, what, got, e2, want, e)
	}
}

// isState holds what State answers.
func isState(t *testing.T, c api.Count, want int, e api.Errno) {
	t.Helper()
	if got, e2 := State(c); got != want || e2 != e {
		t.Errorf("State(%+v) = %d, %d; want %d, %d", c, got, e2, want, e)
	}
}

// stepped is a count by some steps of one kind.
func stepped(t *testing.T, c api.Count, what, times int) api.Count {
	t.Helper()
	for range times {
		after, e := Step(c, what)
		if e != api.OK {
			t.Fatalf("Step(%+v, %d): %d", c, what, e)
		}
		c = after
	}
	return c
}

// P6.1

func TestRight(t *testing.T) {
	allCounts(func(c api.Count) {
		if !Right(c) {
			t.Errorf("%+v may be", c)
		}
	})
	for _, c := range wrongCounts() {
		if Right(c) {
			t.Errorf("%+v may not be", c)
		}
	}
}

func TestState(t *testing.T) {
	cases := []struct {
		c    api.Count
		want int
	}{
		{api.Count{}, api.Active},
		{api.Count{Tec: 127}, api.Active},
		{api.Count{Rec: 127}, api.Active},
		{api.Count{Tec: 127, Rec: 127}, api.Active},
		{api.Count{Tec: 128}, api.Passive},
		{api.Count{Rec: 128}, api.Passive},
		{api.Count{Tec: 127, Rec: 128}, api.Passive},
		{api.Count{Tec: 128, Rec: 127}, api.Passive},
		{api.Count{Tec: 255}, api.Passive},
		{api.Count{Rec: 255}, api.Passive},
		{api.Count{Tec: 255, Rec: 255}, api.Passive},
		{api.Count{Off: true, Rest: 1}, api.Off},
		{api.Count{Off: true, Rest: 127}, api.Off},
		{api.Count{Off: true, Rest: 128}, api.Off},
	}
	for _, c := range cases {
		isState(t, c.c, c.want, api.OK)
	}
}

func TestStateOfAll(t *testing.T) {
	allCounts(func(c api.Count) {
		want := 1
		if c.Tec/128+c.Rec/128 > 0 {
			want = 2
		}
		if c.Off {
			want = 3
		}
		isState(t, c, want, api.OK)
	})
}

func TestStateWrong(t *testing.T) {
	for _, c := range wrongCounts() {
		isState(t, c, 0, api.ErrArg)
	}
}

func TestStep(t *testing.T) {
	off := api.Count{Off: true, Rest: 128}
	cases := []struct {
		c    api.Count
		what int
		want api.Count
	}{
		{api.Count{}, api.CSent, api.Count{}},
		{api.Count{Tec: 1}, api.CSent, api.Count{}},
		{api.Count{Tec: 255, Rec: 9}, api.CSent, api.Count{Tec: 254, Rec: 9}},
		{api.Count{Tec: 128, Rec: 9}, api.CSent, api.Count{Tec: 127, Rec: 9}},

		{api.Count{}, api.CCame, api.Count{}},
		{api.Count{Rec: 1}, api.CCame, api.Count{}},
		{api.Count{Tec: 9, Rec: 119}, api.CCame, api.Count{Tec: 9, Rec: 118}},
		{api.Count{Tec: 9, Rec: 127}, api.CCame, api.Count{Tec: 9, Rec: 126}},
		{api.Count{Tec: 9, Rec: 128}, api.CCame, api.Count{Tec: 9, Rec: 119}},
		{api.Count{Rec: 130}, api.CCame, api.Count{Rec: 119}},
		{api.Count{Tec: 255, Rec: 255}, api.CCame, api.Count{Tec: 255, Rec: 119}},

		{api.Count{}, api.CSendErr, api.Count{Tec: 8}},
		{api.Count{Tec: 247, Rec: 9}, api.CSendErr, api.Count{Tec: 255, Rec: 9}},
		{api.Count{Tec: 248, Rec: 9}, api.CSendErr, off},
		{api.Count{Tec: 250}, api.CSendErr, off},
		{api.Count{Tec: 255, Rec: 255}, api.CSendErr, off},

		{api.Count{Rec: 9}, api.CSendBad, api.Count{Tec: 8, Rec: 9}},
		{api.Count{Tec: 247}, api.CSendBad, api.Count{Tec: 255}},
		{api.Count{Tec: 248}, api.CSendBad, off},
		{api.Count{Tec: 255, Rec: 9}, api.CSendBad, off},

		{api.Count{}, api.CComeErr, api.Count{Rec: 1}},
		{api.Count{Tec: 255, Rec: 127}, api.CComeErr, api.Count{Tec: 255, Rec: 128}},
		{api.Count{Rec: 254}, api.CComeErr, api.Count{Rec: 255}},
		{api.Count{Tec: 9, Rec: 255}, api.CComeErr, api.Count{Tec: 9, Rec: 255}},

		{api.Count{Tec: 255}, api.CComeBad, api.Count{Tec: 255, Rec: 8}},
		{api.Count{Rec: 120}, api.CComeBad, api.Count{Rec: 128}},
		{api.Count{Rec: 247}, api.CComeBad, api.Count{Rec: 255}},
		{api.Count{Rec: 248}, api.CComeBad, api.Count{Rec: 255}},
		{api.Count{Tec: 9, Rec: 255}, api.CComeBad, api.Count{Tec: 9, Rec: 255}},

		{api.Count{}, api.CRest, api.Count{}},
		{api.Count{Tec: 255, Rec: 255}, api.CRest, api.Count{Tec: 255, Rec: 255}},
		{off, api.CRest, api.Count{Off: true, Rest: 127}},
		{api.Count{Off: true, Rest: 2}, api.CRest, api.Count{Off: true, Rest: 1}},
		{api.Count{Off: true, Rest: 1}, api.CRest, api.Count{}},

		{off, api.CSent, off},
		{off, api.CCame, off},
		{off, api.CSendErr, off},
		{off, api.CComeErr, off},
		{off, api.CSendBad, off},
		{off, api.CComeBad, off},
		{api.Count{Off: true, Rest: 1}, api.CSendErr, api.Count{Off: true, Rest: 1}},
		{api.Count{Off: true, Rest: 1}, api.CComeBad, api.Count{Off: true, Rest: 1}},
	}
	for _, c := range cases {
		isStep(t, c.c, c.what, c.want, api.OK)
	}
}

func TestStepOfAll(t *testing.T) {
	allCounts(func(c api.Count) {
		for _, what := range allSteps() {
			isStep(t, c, what, next(c, what), api.OK)
		}
	})
}

func TestStepWrong(t *testing.T) {
	for _, c := range wrongCounts() {
		for _, what := range append(allSteps(), wrongSteps()...) {
			isStep(t, c, what, api.Count{}, api.ErrArg)
		}
	}
	right := []api.Count{
		{}, {Tec: 5, Rec: 9}, {Tec: 255, Rec: 255}, {Off: true, Rest: 1}, {Off: true, Rest: 128},
	}
	for _, c := range right {
		for _, what := range wrongSteps() {
			isStep(t, c, what, api.Count{}, api.ErrArg)
		}
	}
}

// P6.2

func TestWhatMayBeStaysSuch(t *testing.T) {
	allCounts(func(c api.Count) {
		for _, what := range allSteps() {
			after, e := Step(c, what)
			if e != api.OK || !Right(after) {
				t.Errorf("Step(%+v, %d) = %+v, %d, which may not be", c, what, after, e)
			}
		}
	})
}

func TestThirtyTwoErrorsInSendingMakeItOff(t *testing.T) {
	for _, what := range []int{api.CSendErr, api.CSendBad} {
		for times := range 32 {
			c := stepped(t, api.Count{}, what, times)
			if c.Off {
				t.Errorf("%d of %d made it %+v", times, what, c)
			}
		}
		c := stepped(t, api.Count{}, what, 32)
		isState(t, c, api.Off, api.OK)
		if c != (api.Count{Off: true, Rest: 128}) {
			t.Errorf("32 of %d made it %+v", what, c)
		}
	}
}

// What comes, or rests, between errors in sending changes nothing in that.
func TestErrorsInSendingCountBesideOthers(t *testing.T) {
	others := []int{api.CCame, api.CComeErr, api.CComeBad, api.CRest}
	var c api.Count
	for i := range 32 {
		isState(t, c, []int{api.Active, api.Passive}[i/16], api.OK)
		what := []int{api.CSendErr, api.CSendBad}[i%2]
		c = stepped(t, c, what, 1)
		if i < 31 {
			c = stepped(t, c, others[i%4], 1)
		}
		if c.Off != (i == 31) {
			t.Fatalf("%d errors made it %+v", i+1, c)
		}
	}
}

// A frame that was sent takes one away of what makes it Off.
func TestThirtyTwoErrorsWithOneSentBetween(t *testing.T) {
	for first := 1; first < 32; first++ {
		c := stepped(t, api.Count{}, api.CSendErr, first)
		c = stepped(t, c, api.CSent, 1)
		c = stepped(t, c, api.CSendErr, 32-first)
		if c != (api.Count{Tec: 255}) {
			t.Errorf("with one sent behind %d errors it is %+v", first, c)
		}
		if c = stepped(t, c, api.CSendErr, 1); !c.Off {
			t.Errorf("one error more makes it %+v", c)
		}
	}
}

func TestHundredTwentyEightRestsLetItGoOn(t *testing.T) {
	off := stepped(t, api.Count{Rec: 200}, api.CSendErr, 32)
	for times := range 128 {
		c := stepped(t, off, api.CRest, times)
		isState(t, c, api.Off, api.OK)
		if c != (api.Count{Off: true, Rest: 128 - times}) {
			t.Errorf("%d rests made it %+v", times, c)
		}
	}
	if c := stepped(t, off, api.CRest, 128); c != (api.Count{}) {
		t.Errorf("128 rests made it %+v", c)
	}
}

// What happens on the bus between rests changes nothing in that.
func TestRestsCountBesideOthers(t *testing.T) {
	c := api.Count{Off: true, Rest: 128}
	for i := range 128 {
		isState(t, c, api.Off, api.OK)
		for _, what := range allSteps()[:6] {
			c = stepped(t, c, what, i%3)
		}
		c = stepped(t, c, api.CRest, 1)
	}
	if c != (api.Count{}) {
		t.Errorf("128 rests made it %+v", c)
	}
}

func TestEightSentForEachErrorTakeTecBack(t *testing.T) {
	for first := range 256 {
		for _, what := range []int{api.CSendErr, api.CSendBad} {
			for errors := 1; first+8*errors < 256; errors++ {
				c := stepped(t, api.Count{Tec: first, Rec: 7}, what, errors)
				c = stepped(t, c, api.CSent, 8*errors-1)
				if c != (api.Count{Tec: first + 1, Rec: 7}) {
					t.Errorf("ahead of the last one sent for %d errors it is %+v", errors, c)
				}
				c = stepped(t, c, api.CSent, 1)
				if c != (api.Count{Tec: first, Rec: 7}) {
					t.Errorf("behind %d errors, and 8 sent for each, it is %+v", errors, c)
				}
			}
		}
	}
}

// R1: a second call answers the same, whatever was asked between.

func TestNothingIsKept(t *testing.T) {
	for range 2 {
		for _, what := range allSteps() {
			isStep(t, api.Count{Tec: 250, Rec: 130}, what, next(api.Count{Tec: 250, Rec: 130}, what), api.OK)
			isStep(t, api.Count{Off: true}, what, api.Count{}, api.ErrArg)
			isState(t, api.Count{Tec: 127}, api.Active, api.OK)
			isState(t, api.Count{Tec: 256}, 0, api.ErrArg)
		}
	}
}

// P1: no call panics, whatever it is given; a panic here ends the test.

func FuzzNoCallPanics(f *testing.F) {
	f.Add(250, 0, false, 0, api.CSendErr)
	f.Add(0, 130, false, 0, api.CCame)
	f.Add(0, 0, true, 128, api.CRest)
	f.Add(0, 0, true, 0, api.CRest)
	f.Add(math.MaxInt, math.MinInt, false, math.MinInt, math.MaxInt)
	f.Add(math.MinInt, math.MaxInt, true, math.MaxInt, 0)
	f.Fuzz(func(t *testing.T, tec, rec int, off bool, left, what int) {
		c := api.Count{Tec: tec, Rec: rec, Off: off, Rest: left}
		if !Right(c) {
			isState(t, c, 0, api.ErrArg)
			isStep(t, c, what, api.Count{}, api.ErrArg)
			return
		}
		if what < 1 || what > 7 {
			isStep(t, c, what, api.Count{}, api.ErrArg)
			return
		}
		isStep(t, c, what, next(c, what), api.OK)
	})
}
