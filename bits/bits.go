// Package bits is layer 1, rows of bits: see shared/doc/01-bits.md.
package bits

import "campanile/api"

// wordBits is the widest number that a row can tell.
const wordBits = 64

// Right tells whether a row of bits may be.
func Right(s string) bool {
	if len(s) > api.MaxBits {
		return false
	}
	for i := range len(s) {
		if s[i] != '0' && s[i] != '1' {
			return false
		}
	}
	return true
}

// Of writes a number in so many bits, the highest first.
func Of(n uint64, width int) (string, api.Errno) {
	// A shift by 64 leaves 0, so that at width 64 every number fits.
	if width < 0 || width > wordBits || n>>width != 0 {
		return "", api.ErrArg
	}
	row := make([]byte, width)
	for i := range row {
		row[i] = '0' + byte(n>>(width-1-i)&1)
	}
	return string(row), api.OK
}

// Number reads the number that a row tells, the highest bit first.
func Number(s string) (uint64, api.Errno) {
	if len(s) > wordBits || !Right(s) {
		return 0, api.ErrArg
	}
	var n uint64
	for i := range len(s) {
		n = n<<1 | uint64(s[i]-'0')
	}
	return n, api.OK
}

// And is what a bus has where all the rows are put on it at once: a dominant bit of one hides the recessive ones.
func And(rows ...string) (string, api.Errno) {
	if !alike(rows) {
		return "", api.ErrArg
	}
	bus := []byte(rows[0])
	for _, row := range rows[1:] {
		pull(bus, row)
	}
	return string(bus), api.OK
}

// alike tells whether there is a row, and all may be and are as long as the first.
func alike(rows []string) bool {
	for _, row := range rows {
		if !Right(row) || len(row) != len(rows[0]) {
			return false
		}
	}
	return len(rows) > 0
}

// pull makes each bit of bus dominant that is so in the row.
func pull(bus []byte, row string) {
	for i := range bus {
		if row[i] == '0' {
			bus[i] = '0'
		}
	}
}

// Flip turns the bits of a row at these places, each as often as it is named.
func Flip(s string, at ...int) (string, api.Errno) {
	if !Right(s) {
		return "", api.ErrArg
	}
	row := []byte(s)
	for _, place := range at {
		if place < 0 || place >= len(row) {
			return "", api.ErrArg
		}
		row[place] ^= '0' ^ '1'
	}
	return string(row), api.OK
}

// Runs are the equal bits of a row, as long as they are, in order.
func Runs(s string) ([]api.Run, api.Errno) {
	if !Right(s) {
		return nil, api.ErrArg
	}
	var runs []api.Run
	for i := range len(s) {
		if i == 0 || s[i] != s[i-1] {
			runs = append(runs, api.Run{Bit: s[i]})
		}
		runs[len(runs)-1].N++
	}
	return runs, api.OK
}
