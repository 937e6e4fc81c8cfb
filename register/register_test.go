package register_test

import (
	"math"
	"math/rand/v2"
	"testing"

	"blockway/api"
	"blockway/register"
)

// far has numbers of which the lowest bits would be in the range of a cell or a flag.
var far = []int{math.MinInt, math.MinInt + 1, -256, -255, -2, -1, 256, 257, math.MaxInt - 255, math.MaxInt - 254, math.MaxInt}

// senders returns senders, open and closed, with numbers near the ends and the middle of their range, some of them not valid.
func senders() []api.Sender {
	var list []api.Sender
	for _, seq := range []uint64{0, 1, 2, 255, 256, 1<<32 - 1, 1 << 32, 1<<63 - 1, 1 << 63, 1<<64 - 2, 1<<64 - 1} {
		for _, open := range []bool{false, true} {
			for _, cell := range []int{0, 1, 47, 48, -1, math.MaxInt} {
				for _, flag := range []int{0, 1, 2, -1, math.MinInt} {
					list = append(list, api.Sender{Seq: seq, Open: open, Cell: cell, Flag: flag})
				}
			}
		}
	}
	return list
}

// checkOffered checks an Offer without an error.
func checkOffered(t *testing.T, s api.Sender, cell, flag int, want api.Sender) {
	t.Helper()
	if got, e := register.Offer(s, cell, flag); e != api.OK || got != want {
		t.Errorf("Offer(%+v, %d, %d) = %+v, %d, want %+v, 0", s, cell, flag, got, e, want)
	}
}

// checkNotOffered checks an Offer with an error.
func checkNotOffered(t *testing.T, s api.Sender, cell, flag int, want api.Errno) {
	t.Helper()
	if got, e := register.Offer(s, cell, flag); e != want || got != (api.Sender{}) {
		t.Errorf("Offer(%+v, %d, %d) = %+v, %d, want none, %d", s, cell, flag, got, e, want)
	}
}

// checkConfirm checks Confirm of a number.
func checkConfirm(t *testing.T, s api.Sender, seq uint64, want api.Sender, wantOK bool) {
	t.Helper()
	if got, ok := register.Confirm(s, seq); ok != wantOK || got != want {
		t.Errorf("Confirm(%+v, %d) = %+v, %v, want %+v, %v", s, seq, got, ok, want, wantOK)
	}
}

// P15.1: the next number, with the new cell and flag in place of the old ones.
func TestOffer(t *testing.T) {
	checkOffered(t, api.Sender{}, 0, 0, api.Sender{Seq: 1, Open: true})
	checkOffered(t, api.Sender{}, 3, 1, api.Sender{Seq: 1, Open: true, Cell: 3, Flag: 1})
	checkOffered(t, api.Sender{Seq: 1, Cell: 3, Flag: 1}, 3, 1, api.Sender{Seq: 2, Open: true, Cell: 3, Flag: 1})
	checkOffered(t, api.Sender{Seq: 7, Cell: 3, Flag: 1}, 0, 0, api.Sender{Seq: 8, Open: true})
	checkOffered(t, api.Sender{Seq: 7, Cell: 3}, 47, 1, api.Sender{Seq: 8, Open: true, Cell: 47, Flag: 1})
	checkOffered(t, api.Sender{Seq: 255}, 1, 0, api.Sender{Seq: 256, Open: true, Cell: 1})
	checkOffered(t, api.Sender{Seq: 1<<32 - 1}, 1, 0, api.Sender{Seq: 1 << 32, Open: true, Cell: 1})
	checkOffered(t, api.Sender{Seq: 1<<63 - 1}, 1, 0, api.Sender{Seq: 1 << 63, Open: true, Cell: 1})
	checkOffered(t, api.Sender{Seq: 1<<64 - 2}, 1, 0, api.Sender{Seq: 1<<64 - 1, Open: true, Cell: 1})
}

// P15.1: the chapter's example, two Offers without a Confirm between them.
func TestOfferTwice(t *testing.T) {
	s, _ := register.Offer(api.Sender{}, 5, 1)
	checkNotOffered(t, s, 5, 1, api.ErrFull)
	checkNotOffered(t, s, 6, 0, api.ErrFull)
	s, _ = register.Confirm(s, 1)
	checkOffered(t, s, 6, 0, api.Sender{Seq: 2, Open: true, Cell: 6})
}

// P15.1: every cell with every flag of their ranges, and what is next to them and far from them.
func TestRanges(t *testing.T) {
	for cell := range api.MaxCells {
		for flag := range 2 {
			checkOffered(t, api.Sender{Seq: 9}, cell, flag, api.Sender{Seq: 10, Open: true, Cell: cell, Flag: flag})
		}
		for _, flag := range append([]int{2, 3}, far...) {
			checkNotOffered(t, api.Sender{Seq: 9}, cell, flag, api.ErrRange)
		}
	}
	for _, cell := range append([]int{48, 49}, far...) {
		for _, flag := range append([]int{0, 1, 2, 3}, far...) {
			checkNotOffered(t, api.Sender{Seq: 9}, cell, flag, api.ErrRange)
		}
	}
}

// P15.1: ErrRange comes before ErrFull, and ErrFull before ErrNone.
func TestOrderOfErrors(t *testing.T) {
	for _, s := range []api.Sender{{Open: true}, {Seq: 9, Open: true}, {Seq: 1<<64 - 1}, {Seq: 1<<64 - 1, Open: true}} {
		checkNotOffered(t, s, 48, 0, api.ErrRange)
		checkNotOffered(t, s, -1, 1, api.ErrRange)
		checkNotOffered(t, s, 0, 2, api.ErrRange)
		checkNotOffered(t, s, 47, -1, api.ErrRange)
		checkNotOffered(t, s, -1, -1, api.ErrRange)
	}
	checkNotOffered(t, api.Sender{Open: true}, 0, 0, api.ErrFull)
	checkNotOffered(t, api.Sender{Seq: 1<<64 - 1, Open: true}, 0, 0, api.ErrFull)
	checkNotOffered(t, api.Sender{Seq: 1<<64 - 1}, 0, 0, api.ErrNone)
	checkNotOffered(t, api.Sender{Seq: 1<<64 - 1, Cell: 47, Flag: 1}, 47, 1, api.ErrNone)
}

// P15.1: the old cell and flag of a sender count for nothing, whatever they are.
func TestOfferOfAllSenders(t *testing.T) {
	for _, s := range senders() {
		switch {
		case s.Open:
			checkNotOffered(t, s, 4, 1, api.ErrFull)
		case s.Seq == math.MaxUint64:
			checkNotOffered(t, s, 4, 1, api.ErrNone)
		default:
			checkOffered(t, s, 4, 1, api.Sender{Seq: s.Seq + 1, Open: true, Cell: 4, Flag: 1})
		}
	}
}

// P15.2: the frame of an open sender, for any robot; none of a closed one.
func TestOut(t *testing.T) {
	s := api.Sender{Seq: 258, Open: true, Cell: 7, Flag: 1}
	if f, ok := register.Out(s, 1); !ok || f != (api.Frame{Kind: api.FrameAuthority, Robot: 1, Seq: 258, Cell: 7, Flag: 1}) {
		t.Errorf("Out(%+v, 1) = %+v, %v", s, f, ok)
	}
	for _, s := range senders() {
		for _, robot := range append([]int{0, 1, 7, 8}, far...) {
			var want api.Frame
			if s.Open {
				want = api.Frame{Kind: 1, Robot: robot, Seq: s.Seq, Cell: s.Cell, Flag: s.Flag}
			}
			if f, ok := register.Out(s, robot); ok != s.Open || f != want {
				t.Errorf("Out(%+v, %d) = %+v, %v, want %+v, %v", s, robot, f, ok, want, s.Open)
			}
		}
	}
}

// P15.2: only the number of an open sender is confirmed, and only once.
func TestConfirm(t *testing.T) {
	open := api.Sender{Seq: 9, Open: true, Cell: 4, Flag: 1}
	closed := api.Sender{Seq: 9, Cell: 4, Flag: 1}
	checkConfirm(t, open, 9, closed, true)
	checkConfirm(t, closed, 9, closed, false)
	for _, seq := range []uint64{0, 1, 8, 10, 9 + 1<<8, 9 + 1<<32, 9 + 1<<63, 1<<64 - 9, 1<<64 - 1} {
		checkConfirm(t, open, seq, open, false)
		checkConfirm(t, closed, seq, closed, false)
	}
	checkConfirm(t, api.Sender{}, 0, api.Sender{}, false)
	checkConfirm(t, api.Sender{Open: true}, 0, api.Sender{}, true)
}

// P15.2: also for senders that are not valid, with numbers near their own.
func TestConfirmOfAllSenders(t *testing.T) {
	for _, s := range senders() {
		closed := api.Sender{Seq: s.Seq, Cell: s.Cell, Flag: s.Flag}
		if s.Open {
			checkConfirm(t, s, s.Seq, closed, true)
		} else {
			checkConfirm(t, s, s.Seq, s, false)
		}
		for _, difference := range []uint64{1, 2, 1 << 8, 1 << 32, 1 << 63} {
			checkConfirm(t, s, s.Seq+difference, s, false)
			checkConfirm(t, s, s.Seq-difference, s, false)
		}
	}
}

// P15.3: all pairs of numbers in ascending order; a number is not fresh after itself, and nothing is after the greatest one.
func TestFresh(t *testing.T) {
	numbers := []uint64{0, 1, 2, 3, 255, 256, 257, 1<<32 - 1, 1 << 32, 1<<63 - 1, 1 << 63, 1<<63 + 1, 1<<64 - 2, 1<<64 - 1}
	for i, last := range numbers {
		for k, seq := range numbers {
			if got := register.Fresh(last, seq); got != (k > i) {
				t.Errorf("Fresh(%d, %d) = %v, want %v", last, seq, got, k > i)
			}
		}
	}
}

// offerAny offers something to the sender, which is refused exactly if the sender is open.
func offerAny(t *testing.T, random *rand.Rand, s api.Sender) api.Sender {
	t.Helper()
	cell, flag := random.IntN(api.MaxCells), random.IntN(2)
	if s.Open {
		checkNotOffered(t, s, cell, flag, api.ErrFull)
		return s
	}
	next, e := register.Offer(s, cell, flag)
	if e != api.OK || next.Seq <= s.Seq {
		t.Fatalf("Offer(%+v, %d, %d) = %+v, %d, want a greater number", s, cell, flag, next, e)
	}
	return next
}

// P15.1, P15.2, P15.3: whatever is sent, heard and confirmed late and again, each number is accepted and confirmed at most once (fixed seed).
func TestConsequence(t *testing.T) {
	random := rand.New(rand.NewPCG(15, 1))
	for range 300 {
		var s api.Sender
		var last uint64
		accepted, confirmed := map[uint64]bool{}, map[uint64]bool{}
		var sent []uint64
		for range 200 {
			s = offerAny(t, random, s)
			if f, ok := register.Out(s, 0); ok {
				sent = append(sent, f.Seq)
			}
			heard := sent[random.IntN(len(sent))]
			if register.Fresh(last, heard) {
				if heard < last || accepted[heard] {
					t.Fatalf("the number %d is fresh again after %d", heard, last)
				}
				last, accepted[heard] = heard, true
			}
			answered := sent[random.IntN(len(sent))]
			if !accepted[answered] {
				continue
			}
			closed, ok := register.Confirm(s, answered)
			if ok && (confirmed[answered] || answered != last || closed.Open) {
				t.Fatalf("the number %d is confirmed, with %d as the last one accepted: %+v", answered, last, closed)
			}
			if ok {
				confirmed[answered] = true
			}
			s = closed
		}
		if len(confirmed) < 5 {
			t.Fatalf("only %d numbers were confirmed: the run says little", len(confirmed))
		}
	}
}
