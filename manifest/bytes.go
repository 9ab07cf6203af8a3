package manifest

import (
	"bytes"
	"strconv"

	"rubric/api"
	"rubric/frame"
)

const (
	kind = 9 // of its frame
	end  = '\n'
)

// Encode: its bytes; ErrRange, if it is no manifest.
func Encode(m Manifest) ([]byte, api.Errno) {
	if e := m.Check(); e != api.OK {
		return nil, e
	}
	return frame.Encode(kind, line(m.Version), lines(m.Segs...))
}

// Decode: the manifest whose bytes b is; ErrForm, if it is none's.
func Decode(b []byte) (Manifest, api.Errno) {
	x, e := frame.Decode(b)
	if e != api.OK {
		return Manifest{}, api.ErrForm
	}
	m, ok := parse(x.Payload)
	if !ok {
		return Manifest{}, api.ErrForm
	}
	// A number may be written otherwise than a manifest has it: with a sign, or with zeros ahead.
	if its, e := Encode(m); e != api.OK || !bytes.Equal(its, b) {
		return Manifest{}, api.ErrForm
	}
	return m, api.OK
}

// line: a number in decimal, and the line's end.
func line(n int) []byte { return append(strconv.AppendInt(nil, int64(n), 10), end) }

// lines: of all numbers, one behind the other.
func lines(numbers ...int) []byte {
	var b []byte
	for _, n := range numbers {
		b = append(b, line(n)...)
	}
	return b
}

// parse: the version and the segments of lines, and whether each line is a number that fits into an int.
func parse(payload []byte) (Manifest, bool) {
	var numbers []int
	for l := range bytes.SplitSeq(bytes.TrimSuffix(payload, []byte{end}), []byte{end}) {
		n, err := strconv.Atoi(string(l))
		if err != nil {
			return Manifest{}, false
		}
		numbers = append(numbers, n)
	}
	return Manifest{Version: numbers[0], Segs: numbers[1:]}, true
}
