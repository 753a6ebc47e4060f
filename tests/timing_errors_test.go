package tests

import (
	"testing"

	"loop.example/g01274/impl"
)

// timingCall is a call of a function of chapter 6 with arguments that are in range for three pieces.
type timingCall struct {
	name  string
	takes struct{ pushes, spans bool }
	call  func(g timedGame, number int64) ([]any, int64)
}

// timingCalls are the functions with a board and a code; the number stands for each one that is asked for.
func timingCalls() []timingCall {
	type takes = struct{ pushes, spans bool }
	both := takes{true, true}
	list := func(f func(impl.Board, []impl.Push, []impl.Span) ([]int64, int64)) func(timedGame, int64) ([]any, int64) {
		return func(g timedGame, _ int64) ([]any, int64) {
			indices, c := f(g.board, g.pushes, g.spans)
			return []any{len(indices)}, c
		}
	}
	return []timingCall{
		{"CanFall", both, list(impl.CanFall)},
		{"MustFall", both, list(impl.MustFall)},
		{"RacesOf", both, list(impl.RacesOf)},
		{"WindowsOf", both, func(g timedGame, _ int64) ([]any, int64) {
			windows, rounds, c := impl.WindowsOf(g.board, g.pushes, g.spans)
			return []any{len(windows), int(rounds)}, c
		}},
		{"WidestSpan", both, func(g timedGame, _ int64) ([]any, int64) {
			i, by, c := impl.WidestSpan(g.board, g.pushes, g.spans)
			return []any{int(i), int(by)}, c
		}},
		{"SlackFor, piece", both, func(g timedGame, n int64) ([]any, int64) {
			slack, c := impl.SlackFor(g.board, g.pushes, g.spans, n, 5)
			return []any{int(slack)}, c
		}},
		{"SlackFor, until", both, func(g timedGame, n int64) ([]any, int64) {
			slack, c := impl.SlackFor(g.board, g.pushes, g.spans, 0, n)
			return []any{int(slack)}, c
		}},
		{"CriticalWay", both, func(g timedGame, n int64) ([]any, int64) {
			way, c := impl.CriticalWay(g.board, g.pushes, g.spans, n)
			return []any{len(way)}, c
		}},
		{"SureWidth", takes{true, false}, func(g timedGame, n int64) ([]any, int64) {
			width, c := impl.SureWidth(g.board, g.pushes, n)
			return []any{int(width)}, c
		}},
		{"SpansAround, less", takes{}, func(g timedGame, n int64) ([]any, int64) {
			spans, c := impl.SpansAround(g.board, n, 0)
			return []any{len(spans)}, c
		}},
		{"SpansAround, more", takes{}, func(g timedGame, n int64) ([]any, int64) {
			spans, c := impl.SpansAround(g.board, 0, n)
			return []any{len(spans)}, c
		}},
		{"ChanceDelays", takes{false, true}, func(g timedGame, _ int64) ([]any, int64) {
			b, seed, c := impl.ChanceDelays(g.board, g.spans, 12345)
			return []any{int(b.Wide), int(b.High), len(b.Pieces), int(seed)}, c
		}},
	}
}

// timingFails fails the test if a call gives another code, or a result beside it.
func timingFails(t *testing.T, name string, one timingCall, g timedGame, number, want int64) {
	t.Helper()
	results, c := one.call(g, number)
	code(t, one.name+", "+name, c, want)
	for _, result := range results {
		same(t, one.name+", "+name, result, 0)
	}
}

// ErrInvalid comes first, whatever else is wrong.
func TestInvalidTiming(t *testing.T) {
	for _, one := range timingCalls() {
		for _, number := range []int64{0, -1, greatest} {
			for name, b := range badBoards() {
				timingFails(t, name, one, timedGame{gameOf{board: b}, manySpans(len(b.Pieces), 1, 1)}, number, impl.ErrInvalid)
				timingFails(t, name+", no spans", one, timedGame{gameOf: gameOf{board: b}}, number, impl.ErrInvalid)
			}
			for name, list := range badPushes() {
				if one.takes.pushes {
					timingFails(t, name, one, timedGame{gameOf{rowOf(0, 0, 0), list}, threeSpans()}, number, impl.ErrInvalid)
				}
			}
			for name, spans := range badSpans() {
				if one.takes.spans {
					timingFails(t, name, one, timedGame{gameOf{rowOf(0, 0, 0), []impl.Push{pushOf(0, 0, west, 0)}}, spans}, number, impl.ErrInvalid)
				}
			}
		}
	}
}

// ErrLimit comes behind ErrInvalid, and before ErrRange and ErrNotFound.
func TestTooManyTimed(t *testing.T) {
	for _, one := range timingCalls() {
		for _, count := range []int{61, 62, 200} {
			b := fullBoard(20, 10, count)
			g := timedGame{gameOf{b, []impl.Push{pushOf(0, 0, west, 0)}}, manySpans(count, 1, 2)}
			for _, number := range []int64{0, 1, -1, 10, 61, 1000001, greatest} {
				timingFails(t, "too many", one, g, number, impl.ErrLimit)
			}
			still := timedGame{gameOf{board: b}, g.spans}
			timingFails(t, "too many, no push", one, still, 0, impl.ErrLimit)
			if one.takes.spans {
				timingFails(t, "too many, and one span less", one, timedGame{g.gameOf, g.spans[:count-1]}, 0, impl.ErrInvalid)
				timingFails(t, "too many, and a bad span", one, timedGame{g.gameOf, append(manySpans(count-1, 1, 2), spanOf(2, 1))}, 0, impl.ErrInvalid)
			}
			if one.takes.pushes {
				timingFails(t, "too many, and a bad push", one, timedGame{gameOf{b, []impl.Push{pushOf(0, 0, 4, 0)}}, g.spans}, 0, impl.ErrInvalid)
			}
		}
		b := fullBoard(20, 3, 60)
		_, c := one.call(timedGame{gameOf{b, []impl.Push{pushOf(0, 0, west, 0)}}, manySpans(60, 1, 2)}, 0)
		code(t, one.name+", as many as can be", c, impl.OK)
	}
}

// ErrRange comes before ErrNotFound; both ends of a range are in it.
func TestTimingNotInRange(t *testing.T) {
	last := map[string]int64{"SlackFor, piece": 2, "SlackFor, until": 1000000, "CriticalWay": 2, "SureWidth": 9, "SpansAround, less": 9, "SpansAround, more": 9}
	pushed := lineRow()
	unpushed := timedGame{gameOf{board: pushed.board}, pushed.spans}
	tried := 0
	for _, one := range timingCalls() {
		end, ranged := last[one.name]
		if !ranged {
			continue
		}
		tried++
		for _, number := range []int64{-1, end + 1, end + 256, 1<<32 + end, least, greatest} {
			timingFails(t, "not in range", one, pushed, number, impl.ErrRange)
			timingFails(t, "not in range, and none pushed", one, unpushed, number, impl.ErrRange)
		}
		for _, number := range []int64{0, 1, end} {
			_, c := one.call(pushed, number)
			code(t, one.name+", in range", c, impl.OK)
		}
	}
	same(t, "all are tried", tried, len(last))
	empty := timedGame{gameOf: gameOf{board: boardOf(1, 1)}}
	slack, c := impl.SlackFor(empty.board, nil, nil, 0, 0)
	numberFails(t, "no pieces", slack, c, impl.ErrRange)
	way, c := impl.CriticalWay(empty.board, nil, nil, 0)
	listFails(t, "no pieces", way, c, impl.ErrRange)
}

func TestNoneIsSure(t *testing.T) {
	row := lineRow()
	for i := range int64(3) {
		way, c := impl.CriticalWay(row.board, nil, row.spans, i)
		listFails(t, "none is pushed", way, c, impl.ErrNotFound)
	}
	way, c := impl.CriticalWay(row.board, gateRow(2).pushes, row.spans, 2)
	listIs(t, "a line is pushed in vain", way, c, 0, 1, 2)
	gate := gateRow(2)
	way, c = impl.CriticalWay(gate.board, gate.pushes, gate.spans, 2)
	listFails(t, "it may fall, or not", way, c, impl.ErrNotFound)
	for _, g := range []timedGame{{gameOf{board: row.board}, row.spans}, {gameOf: gameOf{board: boardOf(2, 2)}}, {gameOf{rowOf(0), []impl.Push{pushOf(0, 0, north, 0)}}, manySpans(1, 1, 1)}} {
		i, by, c := impl.WidestSpan(g.board, g.pushes, g.spans)
		same(t, "none is sure", []int64{i, by, c}, []int64{0, 0, impl.ErrNotFound})
	}
}
