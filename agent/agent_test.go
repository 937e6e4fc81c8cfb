package agent_test

import (
	"math"
	"math/rand/v2"
	"slices"
	"strings"
	"testing"

	"blockway/agent"
	"blockway/api"
	"blockway/frame"
	"blockway/loader"
)

// small has the cells a 0, b 1, c 2, d/1 3, d/2 4, s/1 5, e/1 6, e/2 7 and e/3 8.
const small = "block a 0 0;block b 1 0;block c 0 1;lane a b c a;lane b a;depot d a b 2;station s c c 1;depot e b a 3;robot d 2"

// followers has the cells that follow each cell of small.
var followers = [][]int{{1, 3}, {0, 2, 6}, {0, 5}, {4}, {1}, {2}, {7}, {8}, {0}}

// far has numbers of which the lowest bits would be those of a robot, a cell or a flag.
var far = []int{math.MinInt, math.MinInt + 1, -1 << 32, -256, 256, 257, 1 << 32, math.MaxInt - 255, math.MaxInt}

// seqs are numbers near the ends and the middle of their range.
var seqs = []uint64{0, 1, 2, 255, 256, 1<<32 - 1, 1 << 32, 1<<63 - 1, 1 << 63, 1<<64 - 2, 1<<64 - 1}

// network returns the network of a layout without errors; semicolons end lines.
func network(t *testing.T, text string) api.Net {
	t.Helper()
	n, _, line, e := loader.Load(strings.ReplaceAll(text, ";", "\n"))
	if e != api.OK {
		t.Fatalf("Load(%q) has the error %d in line %d", text, e, line)
	}
	return n
}

func rest(cell int) api.Body {
	return api.Body{Cell: cell, To: -1}
}

func authority(robot int, seq uint64, cell, flag int) api.Frame {
	return api.Frame{Kind: api.FrameAuthority, Robot: robot, Seq: seq, Cell: cell, Flag: flag}
}

func report(robot int, seq uint64, cell, flag int) api.Frame {
	return api.Frame{Kind: api.FrameReport, Robot: robot, Seq: seq, Cell: cell, Flag: flag}
}

func ack(robot int, seq uint64, flag int) api.Frame {
	return api.Frame{Kind: api.FrameAck, Robot: robot, Seq: seq, Flag: flag}
}

// agents returns agents with these numbers, with every kind of authority and report, some of them not valid.
func agents(last ...uint64) []api.Agent {
	var list []api.Agent
	for _, seq := range last {
		for _, to := range []int{-1, 0, 3, 47, 48, math.MinInt} {
			for _, serve := range []bool{false, true} {
				list = append(list, api.Agent{Last: seq, To: to, Serve: serve}, api.Agent{Last: seq, To: to, Serve: serve, Cell: 6})
				for _, report := range []int{1, 2, 3, -1, 256, math.MaxInt} {
					list = append(list, api.Agent{Last: seq, To: to, Serve: serve, Report: report, Cell: 5})
				}
			}
		}
	}
	return list
}

// bodies returns bodies in these cells, at rest and in transit to them, serving and faulted.
func bodies(places []int) []api.Body {
	var list []api.Body
	for _, cell := range places {
		for _, to := range places {
			for state := range 4 {
				list = append(list, api.Body{Cell: cell, To: to, Serving: state&1 != 0, Faulted: state&2 != 0})
			}
		}
	}
	return list
}

func checkHear(t *testing.T, a api.Agent, robot int, f api.Frame, want api.Agent, wantSent ...api.Frame) {
	t.Helper()
	got, sent := agent.Hear(a, robot, f)
	if got != want || !slices.Equal(sent, wantSent) {
		t.Errorf("Hear(%+v, %d, %+v) = %+v, %+v, want %+v, %+v", a, robot, f, got, sent, want, wantSent)
	}
}

func checkDrive(t *testing.T, n api.Net, a api.Agent, robot int, b api.Body, wantA api.Agent, wantB api.Body, wantSent ...api.Frame) {
	t.Helper()
	gotA, gotB, sent := agent.Drive(n, a, robot, b)
	if gotA != wantA || gotB != wantB || !slices.Equal(sent, wantSent) {
		t.Errorf("Drive(%+v, %d, %+v) = %+v, %+v, %+v, want %+v, %+v, %+v", a, robot, b, gotA, gotB, sent, wantA, wantB, wantSent)
	}
}

func checkFinish(t *testing.T, a api.Agent, robot int, b api.Body, wantA api.Agent, wantB api.Body, wantSent ...api.Frame) {
	t.Helper()
	gotA, gotB, sent := agent.Finish(a, robot, b)
	if gotA != wantA || gotB != wantB || !slices.Equal(sent, wantSent) {
		t.Errorf("Finish(%+v, %d, %+v) = %+v, %+v, %+v, want %+v, %+v, %+v", a, robot, b, gotA, gotB, sent, wantA, wantB, wantSent)
	}
}

func checkAgain(t *testing.T, a api.Agent, robot int, b api.Body, want ...api.Frame) {
	t.Helper()
	if got := agent.Again(a, robot, b); !slices.Equal(got, want) {
		t.Errorf("Again(%+v, %d, %+v) = %+v, want %+v", a, robot, b, got, want)
	}
}

// P17.1: nothing was accepted, no cell is allowed, and there is no report.
func TestNew(t *testing.T) {
	if got := agent.New(); got != (api.Agent{To: -1}) {
		t.Errorf("New() = %+v", got)
	}
}

// P17.2: a fresh authority takes the place of all that the agent had, and is acknowledged with Flag 0.
func TestHearFresh(t *testing.T) {
	checkHear(t, agent.New(), 2, authority(2, 1, 3, 0), api.Agent{Last: 1, To: 3}, ack(2, 1, 0))
	checkHear(t, agent.New(), 0, authority(0, 1, 0, 1), api.Agent{Last: 1, Serve: true}, ack(0, 1, 0))
	checkHear(t, agent.New(), 7, authority(7, 99, 47, 1), api.Agent{Last: 99, To: 47, Serve: true}, ack(7, 99, 0))
	for _, report := range []int{0, 1, 2} {
		a := api.Agent{Last: 5, To: 4, Serve: true, Report: report, Cell: 4}
		checkHear(t, a, 1, authority(1, 6, 3, 0), api.Agent{Last: 6, To: 3}, ack(1, 6, 0))
		checkHear(t, a, 1, authority(1, 1<<63, 3, 1), api.Agent{Last: 1 << 63, To: 3, Serve: true}, ack(1, 1<<63, 0))
		checkHear(t, a, 1, authority(1, 1<<64-1, 3, 0), api.Agent{Last: 1<<64 - 1, To: 3}, ack(1, 1<<64-1, 0))
	}
}

// P17.2: an authority that is not fresh changes nothing, and is acknowledged all the same, with its own number.
func TestHearOld(t *testing.T) {
	for _, a := range agents(5, 1<<64-1) {
		for _, seq := range []uint64{1, 4, 5} {
			checkHear(t, a, 1, authority(1, seq, 3, 0), a, ack(1, seq, 0))
			checkHear(t, a, 1, authority(1, seq, 47, 1), a, ack(1, seq, 0))
		}
	}
}

// P17.2: an acknowledgement removes a report of which it has both the number and the Flag, and nothing else.
func TestHearAck(t *testing.T) {
	for _, report := range []int{1, 2} {
		a := api.Agent{Last: 5, To: 3, Serve: true, Report: report, Cell: 4}
		checkHear(t, a, 1, ack(1, 5, report), api.Agent{Last: 5, To: 3, Serve: true})
		checkHear(t, a, 1, ack(1, 5, 3-report), a)
		checkHear(t, a, 1, ack(1, 5, 0), a)
		checkHear(t, a, 1, ack(1, 4, report), a)
		checkHear(t, a, 1, ack(1, 6, report), a)
		checkHear(t, a, 1, ack(1, 5+1<<32, report), a)
		checkHear(t, a, 0, ack(1, 5, report), a)
		checkHear(t, a, 0, ack(0, 5, report), api.Agent{Last: 5, To: 3, Serve: true})
	}
	// Without a report there is nothing to remove, also not a cell.
	none := api.Agent{Last: 5, To: 3, Serve: true, Cell: 4}
	for flag := range 3 {
		checkHear(t, none, 1, ack(1, 5, flag), none)
	}
	checkHear(t, agent.New(), 1, ack(1, 1, 0), agent.New())
}

// P17.2: a frame that is not valid, that is a report, or that concerns another robot has no effect and no answer.
func TestHearWithoutEffect(t *testing.T) {
	for _, a := range agents(0, 5) {
		for _, f := range []api.Frame{
			{},
			authority(1, 0, 3, 0), authority(1, 6, -1, 0), authority(1, 6, api.MaxCells, 0), authority(1, 6, 3, -1), authority(1, 6, 3, 2),
			authority(0, 6, 3, 0), authority(2, 6, 3, 1), authority(-1, 6, 3, 0), authority(257, 6, 3, 0),
			report(1, 6, 3, 1), report(1, 6, 3, 2), report(1, 5, 5, 1), report(1, 5, 5, 2), report(1, 5, 5, 0), report(0, 6, 3, 1),
			ack(1, 0, 1), ack(1, 0, 2), ack(1, 5, 3), ack(1, 5, -1), ack(0, 5, 1), ack(2, 5, 2),
			{Kind: api.FrameAck, Robot: 1, Seq: 5, Cell: 5, Flag: 1}, {Kind: api.FrameAck, Robot: 1, Seq: 5, Cell: 5, Flag: 2},
			{Kind: 4, Robot: 1, Seq: 6, Cell: 3}, {Kind: -1, Robot: 1, Seq: 6, Cell: 3}, {Kind: 257, Robot: 1, Seq: 6, Cell: 3}, {Kind: math.MinInt, Robot: 1, Seq: 6, Cell: 3},
		} {
			checkHear(t, a, 1, f, a)
		}
	}
}

// P17.2: no frame to a robot that no frame can name is valid.
func TestHearRobots(t *testing.T) {
	a := api.Agent{Last: 5, To: 3, Report: 1, Cell: 4}
	for _, robot := range append([]int{-1, api.MaxRobots}, far...) {
		checkHear(t, a, robot, authority(robot, 6, 3, 0), a)
		checkHear(t, a, robot, ack(robot, 5, 1), a)
		checkHear(t, a, robot, authority(robot&7, 6, 3, 0), a)
	}
}

// hear says what the chapter says of Hear, in the order of its sentences.
func hear(a api.Agent, robot int, f api.Frame) (api.Agent, []api.Frame) {
	if !frame.Valid(f) || f.Robot != robot || f.Kind == api.FrameReport {
		return a, nil
	}
	if f.Kind == api.FrameAuthority {
		if f.Seq > a.Last {
			return api.Agent{Last: f.Seq, To: f.Cell, Serve: f.Flag == 1}, []api.Frame{ack(robot, f.Seq, 0)}
		}
		return a, []api.Frame{ack(robot, f.Seq, 0)}
	}
	if a.Report != 0 && f.Seq == a.Last && f.Flag == a.Report {
		return api.Agent{Last: a.Last, To: a.To, Serve: a.Serve}, nil
	}
	return a, nil
}

// P17.2: frames of all kinds to agents of all kinds.
func TestHearAll(t *testing.T) {
	for _, a := range agents(seqs...) {
		for kind := range 5 {
			for _, seq := range seqs {
				for _, cell := range []int{0, 5, 48} {
					for flag := -1; flag <= 3; flag++ {
						f := api.Frame{Kind: kind, Robot: 3, Seq: seq, Cell: cell, Flag: flag}
						want, sent := hear(a, 3, f)
						checkHear(t, a, 3, f, want, sent...)
					}
				}
			}
		}
	}
}

// P17.3: from rest the transit begins to the cell of the authority, and nothing is answered.
func TestDriveBegins(t *testing.T) {
	n := network(t, small)
	for _, report := range []int{0, 1, 2} {
		a := api.Agent{Last: 4, To: 1, Serve: true, Report: report, Cell: report}
		checkDrive(t, n, a, 1, rest(0), a, api.Body{Cell: 0, To: 1})
		checkDrive(t, n, a, 1, rest(4), a, api.Body{Cell: 4, To: 1})
		checkDrive(t, n, a, 1, rest(1), a, rest(1))
		checkDrive(t, n, a, 1, rest(2), a, rest(2))
		checkDrive(t, n, a, 1, rest(3), a, rest(3))
		checkDrive(t, n, a, 1, rest(9), a, rest(9))
	}
	checkDrive(t, n, agent.New(), 1, rest(0), agent.New(), rest(0))
}

// P17.3: a transit begins only with a cell that follows, and only in a valid network.
func TestDriveFollows(t *testing.T) {
	n := network(t, small)
	broken := network(t, small)
	broken.Robots = []int{0}
	for from := range api.MaxCells + 2 {
		for to := range api.MaxCells + 2 {
			a, want := api.Agent{Last: 2, To: to}, rest(from)
			checkDrive(t, broken, a, 1, rest(from), a, want)
			checkDrive(t, api.Net{}, a, 1, rest(from), a, want)
			if from < len(followers) && slices.Contains(followers[from], to) {
				want.To = to
			}
			checkDrive(t, n, a, 1, rest(from), a, want)
		}
	}
	for _, x := range append([]int{-2, -1, 9, api.MaxCells}, far...) {
		a := api.Agent{Last: 2, To: x}
		checkDrive(t, n, a, 1, rest(0), a, rest(0))
		a.To = 1
		checkDrive(t, n, a, 1, rest(x), a, rest(x))
	}
}

// P17.3: a transit ends in the cell that the body was entering; the authority is used up, and the arrival is reported.
func TestDriveEnds(t *testing.T) {
	n := network(t, small)
	moving := api.Body{Cell: 2, To: 5}
	checkDrive(t, n, api.Agent{Last: 4, To: 5}, 7, moving, api.Agent{Last: 4, To: -1, Report: 1, Cell: 5}, rest(5), report(7, 4, 5, 1))
	serving := api.Body{Cell: 5, To: -1, Serving: true}
	checkDrive(t, n, api.Agent{Last: 4, To: 5, Serve: true}, 7, moving, api.Agent{Last: 4, To: -1, Serve: true, Report: 1, Cell: 5}, serving, report(7, 4, 5, 1))
	// A report that is not acknowledged gives way to the new one.
	checkDrive(t, n, api.Agent{Last: 4, To: 5, Report: 2, Cell: 2}, 7, moving, api.Agent{Last: 4, To: -1, Report: 1, Cell: 5}, rest(5), report(7, 4, 5, 1))
	// What the agent may enter by now does not matter, nor does the network.
	for _, to := range []int{-1, 0, 3, 48} {
		checkDrive(t, api.Net{}, api.Agent{Last: 9, To: to}, 0, moving, api.Agent{Last: 9, To: -1, Report: 1, Cell: 5}, rest(5), report(0, 9, 5, 1))
	}
	checkDrive(t, n, api.Agent{Last: 1, To: 0}, 0, api.Body{Cell: 1, To: 0}, api.Agent{Last: 1, To: -1, Report: 1}, rest(0), report(0, 1, 0, 1))
}

// P17.3: a service that goes on during a transit goes on after it.
func TestDriveEndsInService(t *testing.T) {
	n := network(t, small)
	for _, serve := range []bool{false, true} {
		a := api.Agent{Last: 4, To: 5, Serve: serve}
		want := api.Agent{Last: 4, To: -1, Serve: serve, Report: 1, Cell: 5}
		checkDrive(t, n, a, 1, api.Body{Cell: 2, To: 5, Serving: true}, want, api.Body{Cell: 5, To: -1, Serving: true}, report(1, 4, 5, 1))
	}
}

// P17.3: a body that is not on the floor or that is faulted does nothing, and one that serves begins nothing.
func TestDriveNothing(t *testing.T) {
	n := network(t, small)
	for _, a := range []api.Agent{agent.New(), {Last: 4, To: 1}, {Last: 4, To: 1, Serve: true, Report: 1}} {
		for _, b := range []api.Body{
			rest(-1), {Cell: -1, To: 1}, {Cell: -1, To: 1, Serving: true}, {Cell: -1, To: -1, Faulted: true},
			{Cell: 0, To: -1, Faulted: true}, {Cell: 0, To: 1, Faulted: true}, {Cell: 0, To: 1, Serving: true, Faulted: true},
			{Cell: 0, To: -1, Serving: true}, {Cell: 0, To: -1, Serving: true, Faulted: true},
		} {
			checkDrive(t, n, a, 1, b, a, b)
		}
	}
}

// drive says what the chapter says of Drive in the network small, in the order of its sentences.
func drive(a api.Agent, robot int, b api.Body) (api.Agent, api.Body, []api.Frame) {
	if b.Cell == -1 || b.Faulted {
		return a, b, nil
	}
	if b.To != -1 {
		after := api.Body{Cell: b.To, To: -1, Serving: b.Serving || a.Serve}
		return api.Agent{Last: a.Last, To: -1, Serve: a.Serve, Report: 1, Cell: b.To}, after, []api.Frame{report(robot, a.Last, b.To, 1)}
	}
	exists := b.Cell >= 0 && b.Cell < len(followers)
	if !b.Serving && a.To != -1 && exists && slices.Contains(followers[b.Cell], a.To) {
		return a, api.Body{Cell: b.Cell, To: a.To}, nil
	}
	return a, b, nil
}

// places has the cells of small, no cell, and numbers that are not cells.
var places = append([]int{-1, 0, 1, 2, 3, 4, 5, 6, 7, 8, 9, -2, api.MaxCells}, far...)

// P17.3: all kinds of bodies with agents that may enter each of the places.
func TestDriveAll(t *testing.T) {
	n := network(t, small)
	for _, b := range bodies(places) {
		for i, to := range places {
			a := api.Agent{Last: uint64(i), To: to, Serve: i%2 == 0, Report: i % 3, Cell: i}
			robot := i % api.MaxRobots
			wantA, wantB, sent := drive(a, robot, b)
			checkDrive(t, n, a, robot, b, wantA, wantB, sent...)
		}
	}
}

// P17.3, P17.4: the robot of a report is the argument, whatever it is.
func TestReportsOfRobots(t *testing.T) {
	a := api.Agent{Last: 4, To: 5}
	for _, robot := range append([]int{-1, 0, 7, api.MaxRobots}, far...) {
		checkDrive(t, api.Net{}, a, robot, api.Body{Cell: 2, To: 5}, api.Agent{Last: 4, To: -1, Report: 1, Cell: 5}, rest(5), report(robot, 4, 5, 1))
		checkFinish(t, a, robot, api.Body{Cell: 5, To: -1, Serving: true}, api.Agent{Last: 4, To: 5, Report: 2, Cell: 5}, rest(5), report(robot, 4, 5, 2))
		checkAgain(t, api.Agent{Last: 4, To: -1, Report: 2, Cell: 5}, robot, rest(5), report(robot, 4, 5, 2))
	}
}

// P17.4: the service ends, and its end is reported with the body's cell, in place of another report.
func TestFinish(t *testing.T) {
	serving := api.Body{Cell: 5, To: -1, Serving: true}
	for _, before := range []int{0, 1, 2} {
		a := api.Agent{Last: 9, To: -1, Serve: true, Report: before, Cell: before}
		checkFinish(t, a, 3, serving, api.Agent{Last: 9, To: -1, Serve: true, Report: 2, Cell: 5}, rest(5), report(3, 9, 5, 2))
	}
	// The agent may have accepted the next authority, and a body may be in transit: both stay as they are.
	checkFinish(t, api.Agent{Last: 9, To: 2}, 3, serving, api.Agent{Last: 9, To: 2, Report: 2, Cell: 5}, rest(5), report(3, 9, 5, 2))
	checkFinish(t, api.Agent{Last: 9, To: 5}, 3, api.Body{Cell: 2, To: 5, Serving: true}, api.Agent{Last: 9, To: 5, Report: 2, Cell: 2}, api.Body{Cell: 2, To: 5}, report(3, 9, 2, 2))
}

// P17.4: all kinds of bodies; only one on the floor that serves and is not faulted ends its service.
func TestFinishAll(t *testing.T) {
	for _, b := range bodies(places) {
		for i, a := range []api.Agent{agent.New(), {Last: 4, To: 1}, {Last: 1<<64 - 1, To: -1, Serve: true, Report: 1, Cell: 3}} {
			if b.Cell == -1 || !b.Serving || b.Faulted {
				checkFinish(t, a, i, b, a, b)
				continue
			}
			wantA, wantB := a, b
			wantA.Report, wantA.Cell, wantB.Serving = 2, b.Cell, false
			checkFinish(t, a, i, b, wantA, wantB, report(i, a.Last, b.Cell, 2))
		}
	}
}

// P17.4: Again returns the report of the agent, with its own cell, wherever the body is, unless the body is faulted.
func TestAgain(t *testing.T) {
	for _, a := range agents(0, 9, 1<<64-1) {
		for _, b := range bodies([]int{-1, 0, 5, api.MaxCells, math.MinInt}) {
			if a.Report == 0 || b.Faulted {
				checkAgain(t, a, 3, b)
			} else {
				checkAgain(t, a, 3, b, report(3, a.Last, a.Cell, a.Report))
			}
		}
	}
	checkAgain(t, agent.New(), 3, rest(5))
}

// P17.2, P17.3: the chapter's example, an authority heard twice lets the robot enter its cell once, however often it drives.
func TestExample(t *testing.T) {
	n := network(t, small)
	for _, order := range []string{"hhdddd", "hdhddd", "hddhdd", "hdddhd"} {
		a, b, acks, entered := agent.New(), rest(0), 0, 0
		for _, what := range order {
			before := b
			var sent []api.Frame
			if what == 'h' {
				a, sent = agent.Hear(a, 0, authority(0, 1, 3, 0))
				if slices.Equal(sent, []api.Frame{ack(0, 1, 0)}) {
					acks++
				}
				continue
			}
			a, b, _ = agent.Drive(n, a, 0, b)
			if before.To == -1 && b.To == 3 {
				entered++
			}
		}
		if b != rest(3) || acks != 2 || entered != 1 {
			t.Errorf("%s: %+v with %d acknowledgements, entered %d times", order, b, acks, entered)
		}
	}
}

// run is a robot whose agent hears frames in any order, with what it has accepted and entered.
type run struct {
	a        api.Agent
	b        api.Body
	accepted []uint64
	entered  []uint64
}

// hear delivers a frame and notes a number that was accepted.
func (r *run) hear(t *testing.T, f api.Frame) {
	after, sent := agent.Hear(r.a, 0, f)
	if after.Last < r.a.Last {
		t.Errorf("%+v became %+v", r.a, after)
	}
	for _, s := range sent {
		if !frame.Valid(s) || s.Kind != api.FrameAck || s.Seq != f.Seq {
			t.Errorf("%+v was answered with %+v", f, s)
		}
	}
	if after.Last != r.a.Last {
		r.accepted = append(r.accepted, after.Last)
	}
	r.a = after
}

// drive drives the robot and notes the number under which it begins to enter a cell.
func (r *run) drive(t *testing.T, n api.Net) {
	a, b, sent := agent.Drive(n, r.a, 0, r.b)
	if r.b.To == -1 && b.To != -1 {
		r.entered = append(r.entered, r.a.Last)
		if b.To != r.a.To || !slices.Contains(followers[b.Cell], b.To) {
			t.Errorf("%+v with %+v became %+v", r.b, r.a, b)
		}
	}
	for _, s := range sent {
		if !frame.Valid(s) {
			t.Errorf("%+v is not valid", s)
		}
	}
	r.a, r.b = a, b
}

// P17.2 to P17.4, Consequences: with frames delivered in any order, lost and doubled, a robot enters a cell only under an authority that was accepted before, and once for each number.
func TestRuns(t *testing.T) {
	n := network(t, small)
	random := rand.New(rand.NewPCG(17, 1))
	for range 200 {
		r := run{a: agent.New(), b: rest(0)}
		for seq := range uint64(400) {
			switch random.IntN(6) {
			case 0, 1:
				near := seq/8 + random.Uint64N(3) + 1
				r.hear(t, authority(0, near, random.IntN(9), random.IntN(2)))
			case 2:
				r.hear(t, ack(0, r.a.Last, random.IntN(3)))
			case 3:
				r.a, r.b, _ = agent.Finish(r.a, 0, r.b)
			default:
				r.drive(t, n)
			}
		}
		for i, seq := range r.entered {
			if i > 0 && seq <= r.entered[i-1] || !slices.Contains(r.accepted, seq) {
				t.Fatalf("entered under %v, accepted %v", r.entered, r.accepted)
			}
		}
		if len(r.entered) == 0 {
			t.Fatal("nothing was entered")
		}
	}
}

// R2: a list of answers is new memory, also with a result of the same call before it.
func TestNewMemory(t *testing.T) {
	a := api.Agent{Last: 5, To: -1, Report: 1, Cell: 3}
	first := agent.Again(a, 1, rest(3))
	second := agent.Again(a, 1, rest(3))
	if len(first) != 1 || len(second) != 1 {
		t.Fatalf("Again = %v, %v", first, second)
	}
	first[0].Cell = 9
	_ = append(first, ack(1, 1, 0))
	if second[0] != report(1, 5, 3, 1) {
		t.Errorf("the second list became %v", second)
	}
	checkAgain(t, a, 1, rest(3), report(1, 5, 3, 1))
}

// R2: Drive leaves the network as it is.
func TestNetworkUnchanged(t *testing.T) {
	n := network(t, small)
	for _, b := range []api.Body{rest(0), {Cell: 0, To: 1}, rest(-1)} {
		agent.Drive(n, api.Agent{Last: 1, To: 1}, 0, b)
	}
	if again := network(t, small); !slices.Equal(n.Blocks, again.Blocks) || !slices.Equal(n.Spurs, again.Spurs) || !slices.Equal(n.Robots, again.Robots) || !slices.EqualFunc(n.Next, again.Next, slices.Equal) {
		t.Errorf("the network became %+v", n)
	}
}
