package radio_test

import (
	"math"
	"math/rand/v2"
	"slices"
	"strings"
	"testing"

	"blockway/agent"
	"blockway/api"
	"blockway/loader"
	"blockway/radio"
	"blockway/register"
)

// small has the cells a 0, b 1, c 2, d/1 3, d/2 4, s/1 5, e/1 6, e/2 7 and e/3 8.
const small = "block a 0 0;block b 1 0;block c 0 1;lane a b c a;lane b a;depot d a b 2;station s c c 1;depot e b a 3;robot d 2"

// followers has the cells that follow each cell of small.
var followers = [][]int{{1, 3}, {0, 2, 6}, {0, 5}, {4}, {1}, {2}, {7}, {8}, {0}}

// far has numbers of which the lowest bits would be those of a robot, a cell, a flag or a place in a channel.
var far = []int{math.MinInt, math.MinInt + 1, -1 << 32, -256, 256, 257, 1 << 32, math.MaxInt - 255, math.MaxInt}

// kinds has the kinds of all events that a radio knows.
var kinds = []int{api.EvDown, api.EvUp, api.EvDropDown, api.EvDropUp, api.EvDoubleDown, api.EvDoubleUp, api.EvTimer, api.EvDrive, api.EvServe, api.EvFault}

// network returns the network of a layout without errors; semicolons end lines.
func network(t *testing.T, text string) api.Net {
	t.Helper()
	n, _, line, e := loader.Load(strings.ReplaceAll(text, ";", "\n"))
	if e != api.OK {
		t.Fatalf("Load(%q) has the error %d in line %d", text, e, line)
	}
	return n
}

// broken returns a network that is not valid: its robot stands in a block.
func broken(t *testing.T) api.Net {
	n := network(t, small)
	n.Robots = []int{0}
	return n
}

func authority(seq uint64, cell, flag int) api.Frame {
	return api.Frame{Kind: api.FrameAuthority, Seq: seq, Cell: cell, Flag: flag}
}

func report(seq uint64, cell, flag int) api.Frame {
	return api.Frame{Kind: api.FrameReport, Seq: seq, Cell: cell, Flag: flag}
}

func ack(seq uint64, flag int) api.Frame {
	return api.Frame{Kind: api.FrameAck, Seq: seq, Flag: flag}
}

func rest(cell int) api.Body {
	return api.Body{Cell: cell, To: -1}
}

func event(kind, b int) api.Event {
	return api.Event{Kind: kind, B: b}
}

// beginning returns the radio that begins in a cell.
func beginning(cell int) api.Radio {
	return api.Radio{Agent: api.Agent{To: -1}, Body: rest(cell)}
}

// busy returns a radio of which every part says something: the body stands in block b, where it is served; number 7 is open.
func busy() api.Radio {
	return api.Radio{
		Sender:  api.Sender{Seq: 7, Open: true, Cell: 1, Flag: 1},
		Agent:   api.Agent{Last: 7, To: -1, Serve: true, Report: 1, Cell: 1},
		Body:    api.Body{Cell: 1, To: -1, Serving: true},
		Down:    []api.Frame{authority(7, 1, 1), ack(7, 1), authority(6, 0, 0)},
		Up:      []api.Frame{ack(7, 0), report(7, 1, 1), ack(6, 0)},
		Offered: []int{0, 1},
		Entered: []int{0, 1},
	}
}

// channelOf returns a channel of these many different frames.
func channelOf(length int) []api.Frame {
	var c []api.Frame
	for i := range length {
		c = append(c, ack(uint64(100+i), 0))
	}
	return c
}

func copyOf(x api.Radio) api.Radio {
	x.Down, x.Up = slices.Clone(x.Down), slices.Clone(x.Up)
	x.Offered, x.Entered = slices.Clone(x.Offered), slices.Clone(x.Entered)
	return x
}

func equal(x, y api.Radio) bool {
	return x.Sender == y.Sender && x.Agent == y.Agent && x.Body == y.Body && slices.Equal(x.Down, y.Down) && slices.Equal(x.Up, y.Up) && slices.Equal(x.Offered, y.Offered) && slices.Equal(x.Entered, y.Entered)
}

func checkOffer(t *testing.T, n api.Net, x api.Radio, cell, flag int, want api.Radio, wantError api.Errno) {
	t.Helper()
	before := copyOf(x)
	if got, e := radio.Offer(n, x, cell, flag); !equal(got, want) || e != wantError {
		t.Errorf("Offer(%+v, %d, %d) = %+v, %d, want %+v, %d", before, cell, flag, got, e, want, wantError)
	}
	if !equal(x, before) {
		t.Errorf("Offer changed %+v to %+v", before, x)
	}
}

// checkStep checks an event that can be done.
func checkStep(t *testing.T, n api.Net, x api.Radio, e api.Event, want api.Radio) {
	t.Helper()
	checkResult(t, n, x, e, want, true)
}

// checkFalse checks an event that cannot be done.
func checkFalse(t *testing.T, n api.Net, x api.Radio, e api.Event) {
	t.Helper()
	checkResult(t, n, x, e, copyOf(x), false)
}

func checkResult(t *testing.T, n api.Net, x api.Radio, e api.Event, want api.Radio, wantDone bool) {
	t.Helper()
	before := copyOf(x)
	if got, done := radio.Step(n, x, e); !equal(got, want) || done != wantDone {
		t.Errorf("Step(%+v, %+v) = %+v, %v, want %+v, %v", before, e, got, done, want, wantDone)
	}
	if !equal(x, before) {
		t.Errorf("Step changed %+v to %+v", before, x)
	}
}

// changed returns a copy of a radio with a change.
func changed(x api.Radio, change func(*api.Radio)) api.Radio {
	y := copyOf(x)
	change(&y)
	return y
}

// P18.1: a radio begins in each of the cells, with nothing offered or sent.
func TestNew(t *testing.T) {
	n := network(t, small)
	for cell := range followers {
		if got, e := radio.New(n, cell); !equal(got, beginning(cell)) || e != api.OK {
			t.Errorf("New(%d) = %+v, %d", cell, got, e)
		}
	}
}

// P18.1: a network that is not valid counts before a cell that does not exist.
func TestNewErrors(t *testing.T) {
	n := network(t, small)
	for _, cell := range append([]int{-1, 9, api.MaxCells - 1, api.MaxCells}, far...) {
		checkNewError(t, n, cell, api.ErrRange)
		checkNewError(t, broken(t), cell, api.ErrInvalid)
		checkNewError(t, api.Net{}, cell, api.ErrInvalid)
	}
	for cell := range followers {
		checkNewError(t, broken(t), cell, api.ErrInvalid)
		checkNewError(t, api.Net{}, cell, api.ErrInvalid)
	}
}

func checkNewError(t *testing.T, n api.Net, cell int, want api.Errno) {
	t.Helper()
	if got, e := radio.New(n, cell); !equal(got, api.Radio{}) || e != want {
		t.Errorf("New(%d) = %+v, %d, want no radio and %d", cell, got, e, want)
	}
}

// P18.2: a first offer has the number 1, and its authority is sent to robot 0; only cells that follow can be offered.
func TestOfferFirst(t *testing.T) {
	n := network(t, small)
	for from := range followers {
		for cell := range api.MaxCells {
			for flag := range 2 {
				x := beginning(from)
				want := beginning(from)
				want.Sender = api.Sender{Seq: 1, Open: true, Cell: cell, Flag: flag}
				want.Down, want.Offered = []api.Frame{authority(1, cell, flag)}, []int{cell}
				if slices.Contains(followers[from], cell) {
					checkOffer(t, n, x, cell, flag, want, api.OK)
				} else {
					checkOffer(t, n, x, cell, flag, api.Radio{}, api.ErrIllegal)
				}
				checkOffer(t, broken(t), x, cell, flag, api.Radio{}, api.ErrIllegal)
				checkOffer(t, api.Net{}, x, cell, flag, api.Radio{}, api.ErrIllegal)
			}
		}
	}
}

// P18.2: a later offer leaves all but the sender, Down and Offered as it is.
func TestOfferLater(t *testing.T) {
	n := network(t, small)
	x := busy()
	x.Sender.Open = false
	checkOffer(t, n, x, 6, 0, changed(x, func(y *api.Radio) {
		y.Sender = api.Sender{Seq: 8, Open: true, Cell: 6}
		y.Down, y.Offered = append(y.Down, authority(8, 6, 0)), []int{0, 1, 6}
	}), api.OK)
}

// P18.2: what is offered follows the last offer, wherever the body is and whatever was entered; the body's Cell counts only if there was none.
func TestOfferPlace(t *testing.T) {
	n := network(t, small)
	for _, body := range []api.Body{rest(0), rest(5), rest(-1), {Cell: 0, To: 3}, {Cell: 2, To: -1, Faulted: true}} {
		for place := range followers {
			for cell := range followers {
				x := api.Radio{Sender: api.Sender{Seq: 4}, Agent: api.Agent{To: -1}, Body: body, Offered: []int{5, 0, place}, Entered: []int{5, 0}}
				if slices.Contains(followers[place], cell) {
					checkOffer(t, n, x, cell, 1, changed(x, func(y *api.Radio) {
						y.Sender = api.Sender{Seq: 5, Open: true, Cell: cell, Flag: 1}
						y.Down, y.Offered = []api.Frame{authority(5, cell, 1)}, []int{5, 0, place, cell}
					}), api.OK)
				} else {
					checkOffer(t, n, x, cell, 1, api.Radio{}, api.ErrIllegal)
				}
			}
		}
	}
	moving := api.Radio{Body: api.Body{Cell: 0, To: 3}, Entered: []int{3}}
	checkOffer(t, n, moving, 4, 0, api.Radio{}, api.ErrIllegal)
	checkOffer(t, n, moving, 1, 0, changed(moving, func(y *api.Radio) {
		y.Sender, y.Down, y.Offered = api.Sender{Seq: 1, Open: true, Cell: 1}, []api.Frame{authority(1, 1, 0)}, []int{1}
	}), api.OK)
	for _, cell := range append([]int{-1, 9, api.MaxCells}, far...) {
		checkOffer(t, n, api.Radio{Body: rest(cell)}, 1, 0, api.Radio{}, api.ErrIllegal)
		checkOffer(t, n, api.Radio{Body: rest(0), Offered: []int{cell}}, 1, 0, api.Radio{}, api.ErrIllegal)
	}
}

// P18.2: the errors of the register count first, in their own order, and then that the cell does not follow.
func TestOfferErrors(t *testing.T) {
	n := network(t, small)
	for _, seq := range []uint64{0, 7, math.MaxUint64} {
		for _, open := range []bool{false, true} {
			x := busy()
			x.Sender.Seq, x.Sender.Open = seq, open
			for _, bad := range append([]int{-1, api.MaxCells}, far...) {
				checkOffer(t, n, x, bad, 0, api.Radio{}, api.ErrRange)
				checkOffer(t, api.Net{}, x, bad, 1, api.Radio{}, api.ErrRange)
			}
			for _, bad := range append([]int{-1, 2, 3}, far...) {
				checkOffer(t, n, x, 2, bad, api.Radio{}, api.ErrRange)
				checkOffer(t, api.Net{}, x, 4, bad, api.Radio{}, api.ErrRange)
			}
			want := api.ErrIllegal
			if seq == math.MaxUint64 {
				want = api.ErrNone
			}
			if open {
				want = api.ErrFull
			}
			checkOffer(t, n, x, 1, 0, api.Radio{}, want)
			checkOffer(t, n, x, 47, 1, api.Radio{}, want)
			checkOffer(t, broken(t), x, 2, 0, api.Radio{}, want)
			if want != api.ErrIllegal {
				checkOffer(t, n, x, 2, 0, api.Radio{}, want)
			}
		}
	}
}

// P18.2: the authority is lost in a full channel, but the offer stands; it comes behind all frames of a channel with room.
func TestOfferFull(t *testing.T) {
	n := network(t, small)
	for length := range api.MaxLink + 3 {
		x := beginning(0)
		x.Down, x.Up = channelOf(length), channelOf(api.MaxLink+2)
		want := copyOf(x)
		want.Sender, want.Offered = api.Sender{Seq: 1, Open: true, Cell: 3}, []int{3}
		want.Down = push(want.Down, authority(1, 3, 0))
		checkOffer(t, n, x, 3, 0, want, api.OK)
	}
}

// push says what the chapter of channels says of Send.
func push(c []api.Frame, f api.Frame) []api.Frame {
	if len(c) > api.MaxLink {
		return nil
	}
	if len(c) == api.MaxLink {
		return slices.Clone(c)
	}
	return append(slices.Clone(c), f)
}

// P18.3: the agent hears the frame at the place, answers into Up, and the frame is gone.
func TestDown(t *testing.T) {
	n := network(t, small)
	x := beginning(0)
	x.Down = []api.Frame{ack(4, 0), authority(1, 1, 1), authority(2, 3, 0)}
	x.Up = []api.Frame{report(9, 9, 1)}
	checkStep(t, n, x, event(api.EvDown, 1), changed(x, func(y *api.Radio) {
		y.Agent = api.Agent{Last: 1, To: 1, Serve: true}
		y.Down = []api.Frame{ack(4, 0), authority(2, 3, 0)}
		y.Up = []api.Frame{report(9, 9, 1), ack(1, 0)}
	}))
	checkStep(t, n, x, event(api.EvDown, 2), changed(x, func(y *api.Radio) {
		y.Agent = api.Agent{Last: 2, To: 3}
		y.Down = x.Down[:2]
		y.Up = []api.Frame{report(9, 9, 1), ack(2, 0)}
	}))
	checkStep(t, n, x, event(api.EvDown, 0), changed(x, func(y *api.Radio) { y.Down = x.Down[1:] }))
	checkStep(t, n, busy(), event(api.EvDown, 1), changed(busy(), func(y *api.Radio) {
		y.Agent.Report, y.Agent.Cell = 0, 0
		y.Down = []api.Frame{authority(7, 1, 1), authority(6, 0, 0)}
	}))
	checkStep(t, n, busy(), event(api.EvDown, 2), changed(busy(), func(y *api.Radio) {
		y.Down = y.Down[:2]
		y.Up = append(y.Up, ack(6, 0))
	}))
}

// P18.3: what is delivered to a faulted body is gone without effect; a body that moves or is served hears.
func TestDownBodies(t *testing.T) {
	n := network(t, small)
	for _, body := range []api.Body{rest(0), {Cell: 0, To: 1}, {Cell: 0, To: -1, Serving: true}, {Cell: -1, To: -1}} {
		x := beginning(0)
		x.Body, x.Down = body, []api.Frame{authority(1, 3, 0)}
		checkStep(t, n, x, event(api.EvDown, 0), changed(x, func(y *api.Radio) {
			y.Agent, y.Down, y.Up = api.Agent{Last: 1, To: 3}, nil, []api.Frame{ack(1, 0)}
		}))
		x.Body.Faulted = true
		checkStep(t, n, x, event(api.EvDown, 0), changed(x, func(y *api.Radio) { y.Down = nil }))
	}
	x := busy()
	x.Body.Faulted = true
	checkStep(t, n, x, event(api.EvDown, 1), changed(x, func(y *api.Radio) { y.Down = []api.Frame{authority(7, 1, 1), authority(6, 0, 0)} }))
}

// P18.3: the answer to a delivery is lost in a full channel; without an answer the other channel stays as it is.
func TestDownFull(t *testing.T) {
	n := network(t, small)
	for length := range api.MaxLink + 3 {
		x := beginning(0)
		x.Down, x.Up = []api.Frame{authority(1, 1, 0), ack(1, 1), authority(1, 1, 0), ack(2, 1), ack(3, 1), ack(4, 1)}, channelOf(length)
		checkStep(t, n, x, event(api.EvDown, 2), changed(x, func(y *api.Radio) {
			y.Agent, y.Down, y.Up = api.Agent{Last: 1, To: 1}, slices.Delete(y.Down, 2, 3), push(x.Up, ack(1, 0))
		}))
		checkStep(t, n, x, event(api.EvDown, 1), changed(x, func(y *api.Radio) { y.Down = slices.Delete(y.Down, 1, 2) }))
	}
}

// P18.3: a report confirms the sender whose number it has, if nothing is served there or the service has ended; it is acknowledged in any case.
func TestUpReport(t *testing.T) {
	n := network(t, small)
	for _, senderFlag := range []int{0, 1} {
		for _, flag := range []int{1, 2} {
			for _, open := range []bool{false, true} {
				for _, seq := range []uint64{1, 6, 7, 8, 7 + 1<<32, math.MaxUint64} {
					x := busy()
					x.Sender.Flag, x.Sender.Open = senderFlag, open
					x.Up[1] = report(seq, 1, flag)
					checkStep(t, n, x, event(api.EvUp, 1), changed(x, func(y *api.Radio) {
						y.Up = []api.Frame{ack(7, 0), ack(6, 0)}
						y.Down = append(y.Down, ack(seq, flag))
						y.Sender.Open = open && (seq != 7 || senderFlag == 1 && flag == 1)
					}))
				}
			}
		}
	}
}

// P18.3: the body does not matter to what the sender hears, nor does the agent, nor the cell of a report.
func TestUpBodies(t *testing.T) {
	n := network(t, small)
	for _, body := range []api.Body{rest(0), {Cell: 1, To: 2}, {Cell: 1, To: -1, Serving: true, Faulted: true}, {Cell: 1, To: 2, Faulted: true}, {Cell: -1, To: -1}} {
		for _, a := range []api.Agent{agent.New(), {Last: 7, To: 2, Report: 2, Cell: 2}} {
			for cell := range 9 {
				x := busy()
				x.Body, x.Agent, x.Up = body, a, []api.Frame{report(7, cell, 2)}
				checkStep(t, n, x, event(api.EvUp, 0), changed(x, func(y *api.Radio) {
					y.Sender.Open, y.Up, y.Down = false, nil, append(y.Down, ack(7, 2))
				}))
			}
		}
	}
}

// P18.3: frames that are no reports have no effect on the sender, and are not acknowledged.
func TestUpOther(t *testing.T) {
	n := network(t, small)
	for _, senderFlag := range []int{0, 1} {
		for _, kind := range append([]int{0, api.FrameAuthority, api.FrameAck, 4, -1, 2 + 256, 2 - 1<<32}, far...) {
			for flag := range 3 {
				x := busy()
				x.Sender.Flag = senderFlag
				x.Up[1] = api.Frame{Kind: kind, Seq: 7, Cell: 1, Flag: flag}
				checkStep(t, n, x, event(api.EvUp, 1), changed(x, func(y *api.Radio) { y.Up = []api.Frame{ack(7, 0), ack(6, 0)} }))
			}
		}
	}
}

// P18.3: every report counts, also one that no agent sends; its acknowledgement has its number and its Flag, and nothing else of it.
func TestUpStrange(t *testing.T) {
	n := network(t, small)
	for _, flag := range append([]int{0, 3, -1, 2 + 256}, far...) {
		x := busy()
		x.Up = []api.Frame{{Kind: api.FrameReport, Robot: 5, Seq: 7, Cell: -9, Flag: flag}}
		want := changed(x, func(y *api.Radio) { y.Up, y.Down = nil, append(y.Down, ack(7, flag)) })
		checkStep(t, n, x, event(api.EvUp, 0), want)
		x.Sender.Flag, want.Sender = 0, api.Sender{Seq: 7, Cell: 1}
		checkStep(t, n, x, event(api.EvUp, 0), want)
	}
	x := busy()
	x.Sender, x.Up = api.Sender{Open: true, Flag: 2}, []api.Frame{{Kind: api.FrameReport, Flag: 1}, {Kind: api.FrameReport, Flag: 2}}
	checkStep(t, n, x, event(api.EvUp, 0), changed(x, func(y *api.Radio) { y.Up, y.Down = y.Up[1:], append(y.Down, ack(0, 1)) }))
	checkStep(t, n, x, event(api.EvUp, 1), changed(x, func(y *api.Radio) {
		y.Up, y.Down, y.Sender.Open = y.Up[:1], append(y.Down, ack(0, 2)), false
	}))
}

// P18.3: the acknowledgement of a report is lost in a full channel, but the report confirms the sender.
func TestUpFull(t *testing.T) {
	n := network(t, small)
	for length := range api.MaxLink + 3 {
		x := busy()
		x.Down, x.Up = channelOf(length), []api.Frame{ack(1, 0), ack(2, 0), report(7, 1, 2), ack(3, 0), ack(4, 0), ack(5, 0)}
		checkStep(t, n, x, event(api.EvUp, 2), changed(x, func(y *api.Radio) {
			y.Sender.Open, y.Up, y.Down = false, slices.Delete(y.Up, 2, 3), push(x.Down, ack(7, 2))
		}))
		checkStep(t, n, x, event(api.EvUp, 1), changed(x, func(y *api.Radio) { y.Up = slices.Delete(y.Up, 1, 2) }))
	}
}

// P18.3: the frame at the place of one channel is lost; the body may be faulted.
func TestDrop(t *testing.T) {
	n := network(t, small)
	for _, faulted := range []bool{false, true} {
		x := busy()
		x.Body.Faulted = faulted
		x.Down = append(x.Down, x.Down[0])
		for i := range 4 {
			checkStep(t, n, x, event(api.EvDropDown, i), changed(x, func(y *api.Radio) { y.Down = slices.Delete(y.Down, i, i+1) }))
		}
		for i := range 3 {
			checkStep(t, n, x, event(api.EvDropUp, i), changed(x, func(y *api.Radio) { y.Up = slices.Delete(y.Up, i, i+1) }))
		}
	}
}

// P18.3: a copy of the frame at the place of one channel comes to its end; without room for it the frame counts as doubled all the same.
func TestDouble(t *testing.T) {
	n := network(t, small)
	for length := 1; length <= api.MaxLink; length++ {
		for i := range length {
			for _, faulted := range []bool{false, true} {
				x := busy()
				x.Body.Faulted, x.Down, x.Up = faulted, channelOf(length), channelOf(api.MaxLink+1)
				checkStep(t, n, x, event(api.EvDoubleDown, i), changed(x, func(y *api.Radio) { y.Down = push(x.Down, x.Down[i]) }))
				x.Down, x.Up = x.Up, x.Down
				checkStep(t, n, x, event(api.EvDoubleUp, i), changed(x, func(y *api.Radio) { y.Up = push(x.Up, x.Up[i]) }))
			}
		}
	}
}

// P18.3: without such a frame nothing happens; the other channel may have one. A list that is too long is no channel.
func TestNoFrame(t *testing.T) {
	n := network(t, small)
	for i, kind := range kinds[:6] {
		for length := range api.MaxLink + 4 {
			x := busy()
			x.Down, x.Up = channelOf(length), channelOf(api.MaxLink)
			if i%2 == 1 {
				x.Down, x.Up = x.Up, x.Down
			}
			for _, at := range append([]int{-1, length, api.MaxLink, api.MaxLink + 1}, far...) {
				if at < length && at >= 0 && length <= api.MaxLink {
					continue
				}
				checkFalse(t, n, x, event(kind, at))
			}
			if length > api.MaxLink {
				for at := range length {
					checkFalse(t, n, x, event(kind, at))
				}
			}
		}
	}
}

// P18.3: the authority is sent again while the sender is open, and the report while it is not acknowledged and the body is not faulted.
func TestTimer(t *testing.T) {
	n := network(t, small)
	for _, open := range []bool{false, true} {
		for _, number := range []int{0, 1, 2} {
			for _, faulted := range []bool{false, true} {
				x := busy()
				x.Sender.Open, x.Agent.Report, x.Body.Faulted = open, number, faulted
				want := copyOf(x)
				if open {
					want.Down = append(want.Down, authority(7, 1, 1))
				}
				if number != 0 && !faulted {
					want.Up = append(want.Up, report(7, 1, number))
				}
				for _, b := range append([]int{0, -1, 99}, far...) {
					checkStep(t, n, x, event(api.EvTimer, b), want)
				}
			}
		}
	}
	checkStep(t, n, beginning(0), event(api.EvTimer, 0), beginning(0))
}

// P18.3: what is sent again is lost in a full channel, in each of the directions.
func TestTimerFull(t *testing.T) {
	n := network(t, small)
	for down := range api.MaxLink + 3 {
		for up := range api.MaxLink + 3 {
			x := busy()
			x.Down, x.Up = channelOf(down), channelOf(up)
			checkStep(t, n, x, event(api.EvTimer, 0), changed(x, func(y *api.Radio) {
				y.Down, y.Up = push(x.Down, authority(7, 1, 1)), push(x.Up, report(7, 1, 1))
			}))
			x.Sender.Open, x.Agent.Report = false, 0
			checkStep(t, n, x, event(api.EvTimer, 0), x)
		}
	}
}

// P18.3: a transit begins without a word; when it ends, its cell is entered and reported.
func TestDrive(t *testing.T) {
	n := network(t, small)
	x := busy()
	x.Body, x.Agent = rest(1), api.Agent{Last: 8, To: 6, Serve: true, Report: 2, Cell: 1}
	moving := changed(x, func(y *api.Radio) { y.Body.To = 6 })
	checkStep(t, n, x, event(api.EvDrive, 0), moving)
	checkStep(t, n, moving, event(api.EvDrive, 0), changed(x, func(y *api.Radio) {
		y.Body, y.Agent = api.Body{Cell: 6, To: -1, Serving: true}, api.Agent{Last: 8, To: -1, Serve: true, Report: 1, Cell: 6}
		y.Entered, y.Up = []int{0, 1, 6}, append(y.Up, report(8, 6, 1))
	}))
	// A transit ends also in a network that is not valid, and whatever B says; only a valid one lets another begin.
	for _, b := range append([]int{-1, 7}, far...) {
		checkStep(t, n, x, event(api.EvDrive, b), moving)
		checkStep(t, broken(t), moving, event(api.EvDrive, b), changed(x, func(y *api.Radio) {
			y.Body, y.Agent = api.Body{Cell: 6, To: -1, Serving: true}, api.Agent{Last: 8, To: -1, Serve: true, Report: 1, Cell: 6}
			y.Entered, y.Up = []int{0, 1, 6}, append(y.Up, report(8, 6, 1))
		}))
	}
	checkFalse(t, broken(t), x, event(api.EvDrive, 0))
	checkFalse(t, api.Net{}, x, event(api.EvDrive, 0))
}

// P18.3: a transit ends in block 0 as in any other cell, and also where the agent has this report already.
func TestDriveEndsAnyhow(t *testing.T) {
	n := network(t, small)
	x := beginning(2)
	x.Body.To, x.Agent = 0, api.Agent{Last: 3, To: -1, Report: 1}
	checkStep(t, n, x, event(api.EvDrive, 0), changed(x, func(y *api.Radio) {
		y.Body, y.Entered, y.Up = rest(0), []int{0}, []api.Frame{report(3, 0, 1)}
	}))
	for length := range api.MaxLink + 3 {
		x.Up = channelOf(length)
		checkStep(t, n, x, event(api.EvDrive, 0), changed(x, func(y *api.Radio) {
			y.Body, y.Entered, y.Up = rest(0), []int{0}, push(x.Up, report(3, 0, 1))
		}))
	}
}

// P18.3: a robot that may not enter a cell, or cannot, stays.
func TestDriveFalse(t *testing.T) {
	n := network(t, small)
	for _, to := range []int{-1, 0, 1, 3, 8, 47} {
		for _, body := range []api.Body{
			rest(1), rest(5), {Cell: 0, To: -1, Serving: true}, {Cell: 0, To: -1, Faulted: true},
			{Cell: 0, To: 1, Faulted: true}, {Cell: 0, To: 1, Serving: true, Faulted: true}, rest(-1), {Cell: -1, To: 1},
		} {
			if body == rest(1) && to == 0 {
				continue
			}
			x := busy()
			x.Body, x.Agent.To = body, to
			checkFalse(t, n, x, event(api.EvDrive, 0))
		}
	}
}

// P18.3: the service ends, and its end is reported into Up.
func TestServe(t *testing.T) {
	n := network(t, small)
	for length := range api.MaxLink + 3 {
		for _, b := range []int{0, -1, 99} {
			x := busy()
			x.Up = channelOf(length)
			checkStep(t, n, x, event(api.EvServe, b), changed(x, func(y *api.Radio) {
				y.Body, y.Agent.Report, y.Up = rest(1), 2, push(x.Up, report(7, 1, 2))
			}))
		}
	}
	x := busy()
	x.Body.To = 2
	checkStep(t, n, x, event(api.EvServe, 0), changed(x, func(y *api.Radio) {
		y.Body, y.Agent.Report, y.Up = api.Body{Cell: 1, To: 2}, 2, append(y.Up, report(7, 1, 2))
	}))
}

// P18.3: a body that is not served, or that is faulted, ends no service. One that is not on the floor is neither, but its agent does nothing.
func TestServeFalse(t *testing.T) {
	n := network(t, small)
	for _, cell := range []int{-1, 0, 1} {
		for _, to := range []int{-1, 0, 2} {
			for state := range 4 {
				x := busy()
				x.Body = api.Body{Cell: cell, To: to, Serving: state&1 != 0, Faulted: state&2 != 0}
				if state != 1 {
					checkFalse(t, n, x, event(api.EvServe, 0))
				} else if cell == -1 {
					checkStep(t, n, x, event(api.EvServe, 0), x)
				}
			}
		}
	}
}

// P18.3: a body becomes faulted once, and stays where it is, in its transit or service; the link stays as it is.
func TestFault(t *testing.T) {
	n := network(t, small)
	for _, body := range []api.Body{rest(0), {Cell: 0, To: 1}, {Cell: 5, To: -1, Serving: true}, {Cell: 2, To: 5, Serving: true}, rest(-1)} {
		for _, b := range []int{0, -1, 99} {
			x := busy()
			x.Body = body
			faulted := changed(x, func(y *api.Radio) { y.Body.Faulted = true })
			checkStep(t, n, x, event(api.EvFault, b), faulted)
			checkFalse(t, n, faulted, event(api.EvFault, b))
		}
	}
}

// P18.3: nothing happens to another robot, whatever the event is.
func TestOtherRobots(t *testing.T) {
	n := network(t, small)
	for _, kind := range kinds {
		for _, a := range append([]int{-1, 1, 2, 7, 8}, far...) {
			for _, body := range []api.Body{busy().Body, rest(1), {Cell: 1, To: 2}} {
				x := busy()
				x.Body, x.Agent.To = body, 2
				checkFalse(t, n, x, api.Event{Kind: kind, A: a, B: 1})
			}
		}
	}
}

// P18.3: other events do nothing, and a text means nothing.
func TestOtherEvents(t *testing.T) {
	n := network(t, small)
	for _, kind := range append([]int{0, api.EvCommand, 12, 13, -1, -2, 2 + 256, 8 + 1<<32}, far...) {
		for b := range 3 {
			checkFalse(t, n, busy(), event(kind, b))
			checkFalse(t, n, busy(), api.Event{Kind: kind, B: b, Text: "task s t"})
		}
	}
	for _, kind := range kinds {
		for _, body := range []api.Body{busy().Body, rest(1)} {
			x := busy()
			x.Body, x.Agent.To = body, 2
			want, done := radio.Step(n, x, event(kind, 1))
			checkResult(t, n, x, api.Event{Kind: kind, B: 1, Text: strings.Repeat("x", 9999)}, want, done)
		}
	}
}

// take returns frame i of a channel and the channel without it, as the chapter of channels says of Deliver.
func take(c []api.Frame, i int) (api.Frame, []api.Frame, bool) {
	if len(c) > api.MaxLink || i < 0 || i >= len(c) {
		return api.Frame{}, c, false
	}
	return c[i], slices.Delete(slices.Clone(c), i, i+1), true
}

// step says what the chapter says of Step, in the order of its bullets.
func step(n api.Net, x api.Radio, e api.Event) (api.Radio, bool) {
	if e.A != 0 {
		return x, false
	}
	var sent []api.Frame
	before, ok := x, true
	down, restDown, inDown := take(x.Down, e.B)
	up, restUp, inUp := take(x.Up, e.B)
	switch e.Kind {
	case api.EvDown:
		if ok, x.Down = inDown, restDown; ok && !x.Body.Faulted {
			x.Agent, sent = agent.Hear(x.Agent, 0, down)
		}
	case api.EvUp:
		ok, x.Up = inUp, restUp
		if ok && up.Kind == api.FrameReport {
			if up.Seq == x.Sender.Seq && (x.Sender.Flag == 0 || up.Flag == 2) {
				x.Sender.Open = false
			}
			x.Down = push(x.Down, ack(up.Seq, up.Flag))
		}
	case api.EvDropDown:
		ok, x.Down = inDown, restDown
	case api.EvDropUp:
		ok, x.Up = inUp, restUp
	case api.EvDoubleDown:
		if ok = inDown; ok {
			x.Down = push(x.Down, down)
		}
	case api.EvDoubleUp:
		if ok = inUp; ok {
			x.Up = push(x.Up, up)
		}
	case api.EvTimer:
		if f, open := register.Out(x.Sender, 0); open {
			x.Down = push(x.Down, f)
		}
		sent = agent.Again(x.Agent, 0, x.Body)
	case api.EvDrive:
		x.Agent, x.Body, sent = agent.Drive(n, x.Agent, 0, x.Body)
		ok = x.Agent != before.Agent || x.Body != before.Body
		if before.Body.To != -1 && x.Body.To == -1 {
			x.Entered = append(slices.Clone(x.Entered), x.Body.Cell)
		}
	case api.EvServe:
		if ok = x.Body.Serving && !x.Body.Faulted; ok {
			x.Agent, x.Body, sent = agent.Finish(x.Agent, 0, x.Body)
		}
	case api.EvFault:
		ok, x.Body.Faulted = !x.Body.Faulted, true
	default:
		ok = false
	}
	for _, f := range sent {
		x.Up = push(x.Up, f)
	}
	return x, ok
}

// anyFrame returns a frame that is near to being one of a radio, and mostly is.
func anyFrame(random *rand.Rand) api.Frame {
	f := api.Frame{Kind: 1 + random.IntN(3), Seq: 1 + random.Uint64N(4), Flag: random.IntN(3)}
	if f.Kind != api.FrameAck {
		f.Cell = random.IntN(9)
	}
	switch random.IntN(20) {
	case 0:
		f.Robot = random.IntN(8)
	case 1:
		f.Kind = random.IntN(6) - 1
	case 2:
		f.Flag = random.IntN(6) - 2
	case 3:
		f.Seq = 0
	}
	return f
}

// anyRadio returns a radio as it need not come from New.
func anyRadio(random *rand.Rand) api.Radio {
	x := api.Radio{
		Sender: api.Sender{Seq: random.Uint64N(4), Open: random.IntN(2) == 0, Cell: random.IntN(9), Flag: random.IntN(2)},
		Agent:  api.Agent{Last: random.Uint64N(4), To: random.IntN(10) - 1, Serve: random.IntN(2) == 0, Report: random.IntN(3), Cell: random.IntN(9)},
		Body:   api.Body{Cell: random.IntN(10) - 1, To: -1, Serving: random.IntN(3) == 0, Faulted: random.IntN(4) == 0},
	}
	if random.IntN(3) == 0 {
		x.Body.To = random.IntN(9)
	}
	for range random.IntN(api.MaxLink + 2) {
		x.Down = append(x.Down, anyFrame(random))
	}
	for range random.IntN(api.MaxLink + 2) {
		x.Up = append(x.Up, anyFrame(random))
	}
	for range random.IntN(3) {
		x.Offered = append(x.Offered, random.IntN(9))
		x.Entered = append(x.Entered, random.IntN(9))
	}
	return x
}

// P18.3: all events on radios of all kinds, against the chapter's words.
func TestStepAll(t *testing.T) {
	n, invalid := network(t, small), broken(t)
	random := rand.New(rand.NewPCG(18, 3))
	for range 4000 {
		x := anyRadio(random)
		for kind := range 14 {
			for _, e := range []api.Event{event(kind, random.IntN(api.MaxLink+2)-1), event(kind, 0), {Kind: kind, A: random.IntN(3) - 1}} {
				want, done := step(n, x, e)
				if !done {
					want = x
				}
				checkResult(t, n, x, e, want, done)
				want, done = step(invalid, x, e)
				if !done {
					want = x
				}
				checkResult(t, invalid, x, e, want, done)
			}
		}
	}
}

// play does events that can all be done.
func play(t *testing.T, n api.Net, x api.Radio, l ...api.Event) api.Radio {
	t.Helper()
	for _, e := range l {
		y, done := radio.Step(n, x, e)
		if !done {
			t.Fatalf("Step(%+v, %+v) cannot be done", x, e)
		}
		x = y
	}
	return x
}

// P18.2, P18.3: the chapter's example, an offer of which both copies are delivered before, within and behind the transit.
func TestExample(t *testing.T) {
	n := network(t, small)
	for _, order := range []string{"hhdd", "hdhd", "hddh"} {
		x, _ := radio.New(n, 0)
		x, e := radio.Offer(n, x, 1, 0)
		if e != api.OK {
			t.Fatalf("Offer has the error %d", e)
		}
		x = play(t, n, x, event(api.EvDoubleDown, 0))
		for _, what := range order {
			if what == 'h' {
				x = play(t, n, x, event(api.EvDown, 0))
			} else {
				x = play(t, n, x, event(api.EvDrive, 0))
			}
		}
		checkFalse(t, n, x, event(api.EvDrive, 0))
		if !slices.Equal(x.Entered, []int{1}) || x.Body != rest(1) {
			t.Errorf("%s: %+v", order, x)
		}
	}
}

// P18.1 to P18.3: a way of two cells, with a service in the second one, in which each frame is lost once.
func TestWay(t *testing.T) {
	n := network(t, small)
	x, _ := radio.New(n, 1)
	x, _ = radio.Offer(n, x, 2, 0)
	x = play(t, n, x, event(api.EvDropDown, 0), event(api.EvTimer, 0), event(api.EvDown, 0), event(api.EvDropUp, 0))
	x = play(t, n, x, event(api.EvDrive, 0), event(api.EvDrive, 0), event(api.EvDropUp, 0), event(api.EvTimer, 0), event(api.EvUp, 0))
	if x.Sender != (api.Sender{Seq: 1, Cell: 2}) || !slices.Equal(x.Down, []api.Frame{authority(1, 2, 0), ack(1, 1)}) {
		t.Fatalf("after the first cell: %+v", x)
	}
	x = play(t, n, x, event(api.EvDropDown, 1), event(api.EvTimer, 0), event(api.EvUp, 0), event(api.EvDown, 1))
	x = play(t, n, x, event(api.EvDown, 0), event(api.EvUp, 0))
	x, e := radio.Offer(n, x, 5, 1)
	x = play(t, n, x, event(api.EvDown, 0), event(api.EvDrive, 0), event(api.EvDrive, 0), event(api.EvUp, 0), event(api.EvUp, 0), event(api.EvDown, 0))
	if e != api.OK || !x.Sender.Open || !x.Body.Serving || x.Agent.Report != 0 || len(x.Down)+len(x.Up) != 0 {
		t.Fatalf("in service: %+v, %d", x, e)
	}
	x = play(t, n, x, event(api.EvServe, 0), event(api.EvDropUp, 0), event(api.EvTimer, 0), event(api.EvUp, 0), event(api.EvDown, 1))
	want := api.Radio{
		Sender: api.Sender{Seq: 2, Cell: 5, Flag: 1}, Agent: api.Agent{Last: 2, To: -1, Serve: true}, Body: rest(5),
		Down: []api.Frame{authority(2, 5, 1)}, Offered: []int{2, 5}, Entered: []int{2, 5},
	}
	if !equal(x, want) {
		t.Errorf("at the end: %+v, want %+v", x, want)
	}
}

// checkRun checks the chapter's consequences for a radio of a run.
func checkRun(t *testing.T, x api.Radio, start int) {
	t.Helper()
	count := len(x.Entered)
	if count > len(x.Offered) || count < len(x.Offered)-1 || !slices.Equal(x.Entered, x.Offered[:count]) {
		t.Fatalf("entered %v, offered %v", x.Entered, x.Offered)
	}
	if !x.Sender.Open && count != len(x.Offered) {
		t.Fatalf("a closed sender: entered %v, offered %v", x.Entered, x.Offered)
	}
	place := start
	for _, cell := range x.Offered {
		if !slices.Contains(followers[place], cell) {
			t.Fatalf("from %d, offered %v", start, x.Offered)
		}
		place = cell
	}
	stands := start
	if count > 0 {
		stands = x.Entered[count-1]
	}
	if x.Body.Cell != stands || x.Body.To != -1 && x.Body.To != x.Offered[count] {
		t.Fatalf("from %d, entered %v, the body is %+v", start, x.Entered, x.Body)
	}
}

// P18.1 to P18.3, Consequences: with frames lost, doubled and delivered in any order, cells are entered as they were offered, once for each offer.
func TestRuns(t *testing.T) {
	n := network(t, small)
	random := rand.New(rand.NewPCG(18, 1))
	entered, faulted := 0, 0
	for range 300 {
		start := random.IntN(len(followers))
		x, e := radio.New(n, start)
		if e != api.OK {
			t.Fatalf("New(%d) has the error %d", start, e)
		}
		for range 600 {
			cell := random.IntN(len(followers))
			if y, e := radio.Offer(n, x, cell, random.IntN(2)); e == api.OK {
				x = y
			}
			kind := kinds[random.IntN(len(kinds)-1)]
			if random.IntN(800) == 0 {
				kind = api.EvFault
			}
			happened := event(kind, random.IntN(api.MaxLink))
			want, done := step(n, x, happened)
			if !done {
				want = x
			}
			checkResult(t, n, x, happened, want, done)
			x, _ = radio.Step(n, x, happened)
			checkRun(t, x, start)
		}
		entered += len(x.Entered)
		if x.Body.Faulted {
			faulted++
		}
	}
	if entered < 1000 || faulted == 0 || faulted == 300 {
		t.Errorf("%d cells were entered and %d robots are faulted", entered, faulted)
	}
}

// roomy returns a radio whose lists have room behind them, in which something is kept.
func roomy() api.Radio {
	x := busy()
	x.Down = append(x.Down, ack(55, 0), ack(56, 0))[:3]
	x.Up = append(x.Up, ack(57, 0), ack(58, 0))[:3]
	x.Offered = append(x.Offered, 77, 78)[:2]
	x.Entered = append(x.Entered, 87, 88)[:2]
	return x
}

// overwrite writes over all memory of a radio's lists, one after another, and checks that none of it is that of another list.
func overwrite(t *testing.T, what string, x api.Radio) {
	t.Helper()
	mark := api.Frame{Kind: 99, Seq: 99}
	down, up, offered, entered := x.Down[:cap(x.Down)], x.Up[:cap(x.Up)], x.Offered[:cap(x.Offered)], x.Entered[:cap(x.Entered)]
	for i := range down {
		down[i] = mark
	}
	for i := range offered {
		offered[i] = 99
	}
	if slices.Contains(up, mark) || slices.Contains(entered, 99) {
		t.Errorf("%s: lists of one result share memory", what)
	}
	for i := range up {
		up[i] = mark
	}
	for i := range entered {
		entered[i] = 99
	}
}

// checkMemory checks a result that was made from x: it is new memory, and x is the radio roomy with a change.
func checkMemory(t *testing.T, what string, x, result api.Radio, change func(*api.Radio)) {
	t.Helper()
	overwrite(t, what, result)
	whole := func(x api.Radio) api.Radio {
		x.Down, x.Up, x.Offered, x.Entered = x.Down[:5], x.Up[:5], x.Offered[:4], x.Entered[:4]
		return x
	}
	before := roomy()
	change(&before)
	if !equal(x, before) || !equal(whole(x), whole(before)) {
		t.Errorf("%s: the argument became %+v, want %+v", what, whole(x), whole(before))
	}
}

// R2: arguments stay as they are, also in the memory behind their lists, and results are new memory, done or not.
func TestNewMemory(t *testing.T) {
	n := network(t, small)
	changes := []func(*api.Radio){
		func(*api.Radio) {},
		func(x *api.Radio) { x.Body.Faulted = true },
		func(x *api.Radio) { x.Body, x.Agent.To = rest(1), 2 },
		func(x *api.Radio) { x.Body = api.Body{Cell: 1, To: 2} },
	}
	for _, change := range changes {
		for kind := range 13 {
			for at := -1; at < 4; at++ {
				x := roomy()
				change(&x)
				y, _ := radio.Step(n, x, event(kind, at))
				checkMemory(t, "Step", x, y, change)
				x = roomy()
				change(&x)
				y, _ = radio.Step(n, x, api.Event{Kind: kind, A: 1, B: at})
				checkMemory(t, "Step of another robot", x, y, change)
			}
		}
	}
	closed := func(x *api.Radio) { x.Sender.Open = false }
	for _, cell := range []int{2, 1, 48} {
		x := roomy()
		closed(&x)
		y, e := radio.Offer(n, x, cell, 0)
		if (e == api.OK) != (cell == 2) {
			t.Errorf("Offer of %d has the error %d", cell, e)
		}
		checkMemory(t, "Offer", x, y, closed)
	}
	again := network(t, small)
	if !slices.Equal(n.Blocks, again.Blocks) || !slices.Equal(n.Spurs, again.Spurs) || !slices.Equal(n.Robots, again.Robots) || !slices.EqualFunc(n.Next, again.Next, slices.Equal) {
		t.Errorf("the network became %+v", n)
	}
}

// R2: two results of the same radio share nothing with each other.
func TestResultsApart(t *testing.T) {
	n := network(t, small)
	x := busy()
	one, _ := radio.Step(n, x, event(api.EvTimer, 0))
	other, _ := radio.Step(n, x, event(api.EvTimer, 0))
	want := copyOf(other)
	overwrite(t, "Step", one)
	if !equal(other, want) {
		t.Errorf("the second result became %+v, want %+v", other, want)
	}
}

// R3: empty lists mean the same as nil ones.
func TestEmptyLists(t *testing.T) {
	n := network(t, small)
	x := api.Radio{Agent: agent.New(), Body: rest(0), Down: []api.Frame{}, Up: []api.Frame{}, Offered: []int{}, Entered: []int{}}
	checkOffer(t, n, x, 3, 1, api.Radio{
		Sender: api.Sender{Seq: 1, Open: true, Cell: 3, Flag: 1}, Agent: agent.New(), Body: rest(0), Down: []api.Frame{authority(1, 3, 1)}, Offered: []int{3},
	}, api.OK)
	for _, kind := range kinds {
		want, done := step(n, x, event(kind, 0))
		checkResult(t, n, x, event(kind, 0), want, done)
	}
}

// R1: the zero radio, and lists far beyond all limits, are no trouble.
func TestExtremes(t *testing.T) {
	n := network(t, small)
	long := busy()
	long.Down, long.Up = make([]api.Frame, 100000), make([]api.Frame, 100000)
	long.Offered, long.Entered = make([]int, 100000), make([]int, 100000)
	long.Sender.Open = false
	if y, e := radio.Offer(n, long, 3, 0); e != api.OK || len(y.Down) != 0 || len(y.Up) != 100000 || len(y.Offered) != 100001 || y.Offered[100000] != 3 {
		t.Errorf("Offer has the error %d, and %d frames, and %d offers", e, len(y.Down), len(y.Offered))
	}
	for _, x := range []api.Radio{{}, long} {
		for kind := range 13 {
			for _, at := range append([]int{0, -1, 99999}, far...) {
				want, done := step(n, x, event(kind, at))
				if !done {
					want = x
				}
				if got, ok := radio.Step(n, x, event(kind, at)); !equal(got, want) || ok != done {
					t.Errorf("kind %d at %d: %v, want %v, or another radio", kind, at, ok, done)
				}
			}
		}
	}
}
