package channel_test

import (
	"math"
	"math/rand/v2"
	"slices"
	"testing"

	"blockway/api"
	"blockway/channel"
)

// numbered returns a frame all parts of which depend on the number.
func numbered(n int) api.Frame {
	return api.Frame{Kind: n, Robot: n + 100, Seq: uint64(n) + 200, Cell: n + 300, Flag: n + 400}
}

// list returns frames with these numbers.
func list(numbers ...int) []api.Frame {
	var c []api.Frame
	for _, n := range numbers {
		c = append(c, numbered(n))
	}
	return c
}

// checkSend checks the result of Send, and that the channel is as before.
func checkSend(t *testing.T, c []api.Frame, f api.Frame, want []api.Frame) {
	t.Helper()
	before := slices.Clone(c)
	if got := channel.Send(c, f); !slices.Equal(got, want) {
		t.Errorf("Send(%v, %v) = %v, want %v", before, f, got, want)
	}
	checkAsBefore(t, c, before)
}

// checkTaken checks Deliver and Lose where there is a frame i: rest is the channel without it.
func checkTaken(t *testing.T, c []api.Frame, i int, f api.Frame, rest []api.Frame) {
	t.Helper()
	before := slices.Clone(c)
	if g, got, ok := channel.Deliver(c, i); !ok || g != f || !slices.Equal(got, rest) {
		t.Errorf("Deliver(%v, %d) = %v, %v, %v, want %v, %v, true", before, i, g, got, ok, f, rest)
	}
	checkAsBefore(t, c, before)
	if got, ok := channel.Lose(c, i); !ok || !slices.Equal(got, rest) {
		t.Errorf("Lose(%v, %d) = %v, %v, want %v, true", before, i, got, ok, rest)
	}
	checkAsBefore(t, c, before)
}

// checkDouble checks Double where there is a frame i.
func checkDouble(t *testing.T, c []api.Frame, i int, want []api.Frame) {
	t.Helper()
	before := slices.Clone(c)
	if got, ok := channel.Double(c, i); !ok || !slices.Equal(got, want) {
		t.Errorf("Double(%v, %d) = %v, %v, want %v, true", before, i, got, ok, want)
	}
	checkAsBefore(t, c, before)
}

// checkFalse checks that Deliver, Lose and Double return false and zero values.
func checkFalse(t *testing.T, c []api.Frame, i int) {
	t.Helper()
	before := slices.Clone(c)
	if f, rest, ok := channel.Deliver(c, i); ok || f != (api.Frame{}) || len(rest) != 0 {
		t.Errorf("Deliver of %d frames, %d = %v, %v, %v, want none, false", len(c), i, f, rest, ok)
	}
	if rest, ok := channel.Lose(c, i); ok || len(rest) != 0 {
		t.Errorf("Lose of %d frames, %d = %v, %v, want none, false", len(c), i, rest, ok)
	}
	if doubled, ok := channel.Double(c, i); ok || len(doubled) != 0 {
		t.Errorf("Double of %d frames, %d = %v, %v, want none, false", len(c), i, doubled, ok)
	}
	checkAsBefore(t, c, before)
}

func checkAsBefore(t *testing.T, c, before []api.Frame) {
	t.Helper()
	if !slices.Equal(c, before) {
		t.Errorf("an argument was changed from %v to %v", before, c)
	}
}

// P14.1: the frame comes to the end, and is lost if there is no room.
func TestSend(t *testing.T) {
	checkSend(t, nil, numbered(1), list(1))
	checkSend(t, []api.Frame{}, numbered(1), list(1))
	checkSend(t, list(1), numbered(2), list(1, 2))
	checkSend(t, list(2), numbered(1), list(2, 1))
	checkSend(t, list(4, 4), numbered(4), list(4, 4, 4))
	checkSend(t, list(1, 2, 3, 4, 5), numbered(6), list(1, 2, 3, 4, 5, 6))
	checkSend(t, list(1, 2, 3, 4, 5, 6), numbered(7), list(1, 2, 3, 4, 5, 6))
}

// P14.1: longer lists are not channels.
func TestSendLong(t *testing.T) {
	checkSend(t, list(1, 2, 3, 4, 5, 6, 7), numbered(8), nil)
	checkSend(t, list(1, 2, 3, 4, 5, 6, 7, 8), numbered(9), nil)
	checkSend(t, make([]api.Frame, 100000), numbered(1), nil)
}

// P14.1, P14.2: a channel does not look into its frames, which need not be valid.
func TestAnyFrame(t *testing.T) {
	for _, f := range []api.Frame{
		{},
		{Kind: api.FrameAuthority, Robot: 1, Seq: 258, Cell: 7, Flag: 1},
		{Kind: math.MinInt, Robot: math.MaxInt, Seq: math.MaxUint64, Cell: math.MinInt, Flag: math.MaxInt},
	} {
		checkSend(t, list(1), f, []api.Frame{numbered(1), f})
		checkTaken(t, []api.Frame{f, numbered(1)}, 0, f, list(1))
		checkTaken(t, []api.Frame{f}, 0, f, nil)
		checkDouble(t, []api.Frame{f}, 0, []api.Frame{f, f})
	}
}

// P14.2: the frame at the place is meant, not one that is equal to it. The first line is the chapter's example.
func TestTaken(t *testing.T) {
	checkTaken(t, list(1, 2), 1, numbered(2), list(1))
	checkTaken(t, list(1, 2), 0, numbered(1), list(2))
	checkTaken(t, list(9), 0, numbered(9), nil)
	checkTaken(t, list(1, 2, 1), 0, numbered(1), list(2, 1))
	checkTaken(t, list(1, 2, 1), 2, numbered(1), list(1, 2))
	checkTaken(t, list(3, 3), 1, numbered(3), list(3))
	for i, rest := range [][]api.Frame{
		list(2, 3, 4, 5, 6), list(1, 3, 4, 5, 6), list(1, 2, 4, 5, 6), list(1, 2, 3, 5, 6), list(1, 2, 3, 4, 6), list(1, 2, 3, 4, 5),
	} {
		checkTaken(t, list(1, 2, 3, 4, 5, 6), i, numbered(i+1), rest)
	}
}

// P14.2: the copy comes to the end, and is lost if there is no room.
func TestDouble(t *testing.T) {
	checkDouble(t, list(1), 0, list(1, 1))
	checkDouble(t, list(1, 2), 0, list(1, 2, 1))
	checkDouble(t, list(1, 2), 1, list(1, 2, 2))
	checkDouble(t, list(1, 2, 3, 4, 5), 2, list(1, 2, 3, 4, 5, 3))
	for i := range api.MaxLink {
		checkDouble(t, list(1, 2, 3, 4, 5, 6), i, list(1, 2, 3, 4, 5, 6))
	}
}

// P14.2: there is no such frame, also where the memory of the channel goes on behind its end.
func TestNoFrame(t *testing.T) {
	checkFalse(t, nil, 0)
	for n := range api.MaxLink + 1 {
		c := list(1, 2, 3, 4, 5, 6, 7, 8)[:n]
		for _, i := range []int{-1, -2, -api.MaxLink, n, n + 1, api.MaxLink, math.MaxInt, math.MinInt, math.MinInt + 1} {
			checkFalse(t, c, i)
		}
	}
}

// P14.2: longer lists are not channels, whatever frames they have.
func TestNoChannel(t *testing.T) {
	for _, c := range [][]api.Frame{list(1, 2, 3, 4, 5, 6, 7), list(1, 2, 3, 4, 5, 6, 7, 8), make([]api.Frame, 100000)} {
		for _, i := range []int{-1, 0, 1, 5, 6, len(c) - 1, len(c), math.MaxInt, math.MinInt} {
			checkFalse(t, c, i)
		}
	}
}

// without returns the frames but frame i, chosen one by one.
func without(c []api.Frame, i int) []api.Frame {
	var rest []api.Frame
	for k, f := range c {
		if k != i {
			rest = append(rest, f)
		}
	}
	return rest
}

// withEnd returns the frames and a further one, but no more than a channel has.
func withEnd(c []api.Frame, f api.Frame) []api.Frame {
	longer := slices.Concat(c, []api.Frame{f})
	return longer[:min(len(longer), api.MaxLink)]
}

// P14.1, P14.2: all lists of two kinds of frames, up to longer ones than channels, with all places near them.
func TestAllLists(t *testing.T) {
	for n := range api.MaxLink + 3 {
		for bits := range 1 << n {
			c := make([]api.Frame, n)
			for k := range c {
				c[k] = numbered(bits >> k & 1)
			}
			if n > api.MaxLink {
				checkSend(t, c, numbered(1), nil)
			} else {
				checkSend(t, c, numbered(1), withEnd(c, numbered(1)))
			}
			for i := -2; i < n+3; i++ {
				if n > api.MaxLink || i < 0 || i >= n {
					checkFalse(t, c, i)
					continue
				}
				checkTaken(t, c, i, c[i], without(c, i))
				checkDouble(t, c, i, withEnd(c, c[i]))
			}
		}
	}
}

// act does something to a channel, and counts in due how often each frame was sent and doubled but not delivered.
func act(random *rand.Rand, c []api.Frame, due map[api.Frame]int) []api.Frame {
	i := random.IntN(api.MaxLink)
	switch random.IntN(5) {
	case 0, 1:
		f := numbered(random.IntN(4))
		due[f]++
		return channel.Send(c, f)
	case 2:
		if doubled, ok := channel.Double(c, i); ok {
			due[c[i]]++
			return doubled
		}
	case 3:
		if f, rest, ok := channel.Deliver(c, i); ok {
			due[f]--
			return rest
		}
	default:
		if rest, ok := channel.Lose(c, i); ok {
			return rest
		}
	}
	return c
}

// P14.1, P14.2: whatever is done, each frame is there at most as often as it was sent and doubled (fixed seed).
func TestConsequence(t *testing.T) {
	random := rand.New(rand.NewPCG(14, 1))
	for range 300 {
		var c []api.Frame
		due := map[api.Frame]int{}
		for range 100 {
			c = act(random, c, due)
			if len(c) > api.MaxLink {
				t.Fatalf("a channel has %d frames", len(c))
			}
			there := map[api.Frame]int{}
			for _, f := range c {
				there[f]++
			}
			for f, count := range there {
				if count > due[f] {
					t.Fatalf("%v has the frame %v %d times, want at most %d", c, f, count, due[f])
				}
			}
		}
	}
}

// results returns what the functions make of a channel with a frame 0.
func results(c []api.Frame) [][]api.Frame {
	_, first, _ := channel.Deliver(c, 0)
	_, last, _ := channel.Deliver(c, len(c)-1)
	lost, _ := channel.Lose(c, 0)
	end, _ := channel.Lose(c, len(c)-1)
	doubled, _ := channel.Double(c, 0)
	return [][]api.Frame{first, last, lost, end, doubled, channel.Send(c, numbered(9))}
}

// R2: results share no memory with the argument, its spare capacity or each other, also where the channel is full.
func TestNewMemory(t *testing.T) {
	for n := 1; n <= api.MaxLink; n++ {
		whole := list(1, 2, 3, 4, 5, 6, 7, 8)
		got := results(whole[:n])
		want := results(slices.Clone(whole[:n]))
		for i, r := range got {
			clear(r[:cap(r)])
			checkAsBefore(t, whole, list(1, 2, 3, 4, 5, 6, 7, 8))
			for k := i + 1; k < len(got); k++ {
				checkAsBefore(t, got[k], want[k])
			}
		}
		got = results(whole[:n])
		clear(whole)
		for k := range got {
			checkAsBefore(t, got[k], want[k])
		}
	}
}
