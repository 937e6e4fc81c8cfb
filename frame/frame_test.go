package frame_test

import (
	"bytes"
	"fmt"
	"math"
	"math/rand/v2"
	"slices"
	"testing"

	"blockway/api"
	"blockway/frame"
)

// encoded returns the bytes of a frame with a number below 256.
func encoded(kind, robot, seq, cell, flag byte) []byte {
	return []byte{kind, robot, 0, 0, 0, 0, 0, 0, 0, seq, cell, flag}
}

// checkCodec checks a valid frame and its encoding in both directions.
func checkCodec(t *testing.T, f api.Frame, b []byte) {
	t.Helper()
	if !frame.Valid(f) {
		t.Errorf("Valid(%+v) is false", f)
	}
	if got, e := frame.Encode(f); e != api.OK || !slices.Equal(got, b) {
		t.Errorf("Encode(%+v) = %v, %d, want %v, 0", f, got, e, b)
	}
	if got, e := frame.Decode(b); e != api.OK || got != f {
		t.Errorf("Decode(%v) = %+v, %d, want %+v, 0", b, got, e, f)
	}
}

// checkNotEncoded checks a frame that is not valid.
func checkNotEncoded(t *testing.T, f api.Frame, want api.Errno) {
	t.Helper()
	if frame.Valid(f) {
		t.Errorf("Valid(%+v) is true", f)
	}
	if got, e := frame.Encode(f); e != want || len(got) != 0 {
		t.Errorf("Encode(%+v) = %v, %d, want none, %d", f, got, e, want)
	}
}

// checkNotDecoded checks bytes that are no encoding.
func checkNotDecoded(t *testing.T, b []byte, want api.Errno) {
	t.Helper()
	if got, e := frame.Decode(b); e != want || got != (api.Frame{}) {
		t.Errorf("Decode(%.400s) = %+v, %d, want none, %d", fmt.Sprint(b), got, e, want)
	}
}

// P13.1, P13.2: the chapter's example and the ends of all ranges of each kind.
func TestCodec(t *testing.T) {
	for _, c := range []struct {
		f api.Frame
		b []byte
	}{
		{api.Frame{Kind: 1, Robot: 1, Seq: 258, Cell: 7, Flag: 1}, []byte{1, 1, 0, 0, 0, 0, 0, 0, 1, 2, 7, 1}},
		{api.Frame{Kind: api.FrameAuthority, Seq: 1}, encoded(1, 0, 1, 0, 0)},
		{api.Frame{Kind: api.FrameAuthority, Robot: 7, Seq: 255, Cell: 47, Flag: 1}, encoded(1, 7, 255, 47, 1)},
		{api.Frame{Kind: api.FrameReport, Seq: 1, Flag: 1}, encoded(2, 0, 1, 0, 1)},
		{api.Frame{Kind: api.FrameReport, Robot: 7, Seq: 255, Cell: 47, Flag: 2}, encoded(2, 7, 255, 47, 2)},
		{api.Frame{Kind: api.FrameAck, Seq: 1}, encoded(3, 0, 1, 0, 0)},
		{api.Frame{Kind: api.FrameAck, Robot: 3, Seq: 9, Flag: 1}, encoded(3, 3, 9, 0, 1)},
		{api.Frame{Kind: api.FrameAck, Robot: 7, Seq: 255, Flag: 2}, encoded(3, 7, 255, 0, 2)},
	} {
		checkCodec(t, c.f, c.b)
	}
}

// P13.1, P13.2: each byte of the number has its place, the most significant one first.
func TestNumbers(t *testing.T) {
	f := api.Frame{Kind: api.FrameReport, Robot: 5, Cell: 6, Flag: 2}
	for i := range 8 {
		for x := 1; x < 256; x++ {
			f.Seq = uint64(x) << (8 * i)
			b := encoded(2, 5, 0, 6, 2)
			b[9-i] = byte(x)
			checkCodec(t, f, b)
		}
	}
	f.Seq = 0x0102030405060708
	checkCodec(t, f, []byte{2, 5, 1, 2, 3, 4, 5, 6, 7, 8, 6, 2})
	f.Seq = 0xfffefdfcfbfaf9f8
	checkCodec(t, f, []byte{2, 5, 255, 254, 253, 252, 251, 250, 249, 248, 6, 2})
	f.Seq = math.MaxUint64
	checkCodec(t, f, []byte{2, 5, 255, 255, 255, 255, 255, 255, 255, 255, 6, 2})
	f.Seq = math.MaxInt64 + 1
	checkCodec(t, f, []byte{2, 5, 128, 0, 0, 0, 0, 0, 0, 0, 6, 2})
}

// P13.1: numbers out of range, some of which have a byte that would be in range.
func TestNotValid(t *testing.T) {
	outside := []int{-1, -256, -255, 256, 257, math.MaxInt - 255, math.MaxInt - 254, math.MinInt, math.MinInt + 1, math.MaxInt}
	for _, f := range []api.Frame{
		{Kind: api.FrameAuthority, Seq: 1},
		{Kind: api.FrameReport, Seq: 1, Flag: 1},
		{Kind: api.FrameAck, Seq: 1},
	} {
		for _, x := range append(outside, api.MaxRobots, 255) {
			g := f
			g.Robot = x
			checkNotEncoded(t, g, api.ErrRange)
		}
		for _, x := range append(outside, api.MaxCells, 255) {
			g := f
			g.Cell = x
			checkNotEncoded(t, g, api.ErrRange)
		}
		for _, x := range append(outside, 3, 255) {
			g := f
			g.Flag = x
			checkNotEncoded(t, g, api.ErrRange)
		}
		g := f
		g.Seq = 0
		checkNotEncoded(t, g, api.ErrRange)
	}
	checkNotEncoded(t, api.Frame{Kind: api.FrameAuthority, Seq: 1, Flag: 2}, api.ErrRange)
	checkNotEncoded(t, api.Frame{Kind: api.FrameReport, Seq: 1, Flag: 0}, api.ErrRange)
	checkNotEncoded(t, api.Frame{Kind: api.FrameAck, Seq: 1, Cell: 1}, api.ErrRange)
	checkNotEncoded(t, api.Frame{Kind: api.FrameAck, Seq: 1, Cell: 47}, api.ErrRange)
}

// P13.1: an unknown kind comes before everything else that is out of range.
func TestUnknownKinds(t *testing.T) {
	for _, kind := range []int{0, 4, -1, 255, 256, 257, 258, 259, -255, math.MaxInt - 254, math.MinInt, math.MinInt + 1, math.MaxInt} {
		checkNotEncoded(t, api.Frame{Kind: kind}, api.ErrKind)
		checkNotEncoded(t, api.Frame{Kind: kind, Seq: 1, Flag: 1}, api.ErrKind)
		checkNotEncoded(t, api.Frame{Kind: kind, Robot: -1, Cell: math.MaxInt, Flag: -1}, api.ErrKind)
	}
}

// P13.2: bytes of each length but FrameBytes, whatever is in them.
func TestLengths(t *testing.T) {
	checkNotDecoded(t, nil, api.ErrShort)
	long := append(encoded(1, 1, 1, 1, 1), encoded(1, 1, 1, 1, 1)...)
	for n := range long {
		if n == api.FrameBytes {
			continue
		}
		checkNotDecoded(t, long[:n], api.ErrShort)
		checkNotDecoded(t, make([]byte, n), api.ErrShort)
		checkNotDecoded(t, bytes.Repeat([]byte{255}, n), api.ErrShort)
	}
	checkNotDecoded(t, long, api.ErrShort)
	checkNotDecoded(t, make([]byte, 1e6), api.ErrShort)
	checkCodec(t, api.Frame{Kind: 1, Robot: 1, Seq: 1, Cell: 1, Flag: 1}, long[:api.FrameBytes])
}

// model returns the frame with these bytes, or the error that the chapter names for them.
func model(kind, robot, seq, cell, flag byte) (api.Frame, api.Errno) {
	flags := map[byte][]byte{1: {0, 1}, 2: {1, 2}, 3: {0, 1, 2}}
	if flags[kind] == nil {
		return api.Frame{}, api.ErrKind
	}
	if robot > 7 || seq == 0 || cell > 47 || kind == 3 && cell != 0 || !slices.Contains(flags[kind], flag) {
		return api.Frame{}, api.ErrRange
	}
	return api.Frame{Kind: int(kind), Robot: int(robot), Seq: uint64(seq), Cell: int(cell), Flag: int(flag)}, api.OK
}

// checkModel checks a frame and its bytes, valid or not, against the model.
func checkModel(t *testing.T, kind, robot, seq, cell, flag byte) {
	t.Helper()
	b := encoded(kind, robot, seq, cell, flag)
	f, e := model(kind, robot, seq, cell, flag)
	if e == api.OK {
		checkCodec(t, f, b)
		return
	}
	checkNotDecoded(t, b, e)
	checkNotEncoded(t, api.Frame{Kind: int(kind), Robot: int(robot), Seq: uint64(seq), Cell: int(cell), Flag: int(flag)}, e)
}

// P13.1, P13.2: all frames near the ranges, and all values of each byte beside these of another one.
func TestAgainstModel(t *testing.T) {
	for kind := range byte(5) {
		for robot := range byte(10) {
			for cell := range byte(50) {
				for flag := range byte(5) {
					checkModel(t, kind, robot, 0, cell, flag)
					checkModel(t, kind, robot, 1, cell, flag)
				}
			}
		}
	}
	for x := range 256 {
		for y := range 256 {
			a, b := byte(x), byte(y)
			checkModel(t, a, b, 1, 0, 1)
			checkModel(t, a, 0, 1, b, 1)
			checkModel(t, a, 0, 1, 0, b)
			for kind := range byte(5) {
				checkModel(t, kind, a, 1, b, 1)
				checkModel(t, kind, a, 1, 0, b)
				checkModel(t, kind, 0, 1, a, b)
			}
		}
	}
}

// P13.1, P13.2: Decode of Encode returns the frame, and Encode of Decode the bytes (fixed seed).
func TestRoundTrip(t *testing.T) {
	random := rand.New(rand.NewPCG(13, 1))
	for range 20000 {
		f := api.Frame{Kind: 1 + random.IntN(3), Robot: random.IntN(8), Seq: random.Uint64() >> random.IntN(64), Cell: random.IntN(48), Flag: random.IntN(3)}
		b, e := frame.Encode(f)
		if frame.Valid(f) != (e == api.OK) {
			t.Errorf("Valid(%+v) is %v, Encode has the error %d", f, frame.Valid(f), e)
		}
		if e == api.OK {
			checkCodec(t, f, b)
		}
		b = encoded(byte(random.IntN(5)), byte(random.IntN(10)), 0, byte(random.IntN(50)), byte(random.IntN(4)))
		for i := 2; i < 10; i++ {
			b[i] = byte(random.IntN(256))
		}
		if f, e = frame.Decode(b); e == api.OK {
			checkCodec(t, f, b)
		}
	}
}

// R2: encodings are new memory, and Decode does not change its argument.
func TestNewMemory(t *testing.T) {
	f := api.Frame{Kind: api.FrameAuthority, Robot: 2, Seq: 3, Cell: 4, Flag: 1}
	first, _ := frame.Encode(f)
	second, _ := frame.Encode(f)
	clear(first[:cap(first)])
	checkCodec(t, f, second)
	if !slices.Equal(second, encoded(1, 2, 3, 4, 1)) {
		t.Errorf("the bytes were changed: %v", second)
	}
	bad := encoded(1, 8, 3, 4, 1)
	checkNotDecoded(t, bad, api.ErrRange)
	if !slices.Equal(bad, encoded(1, 8, 3, 4, 1)) {
		t.Errorf("the bytes were changed: %v", bad)
	}
}
