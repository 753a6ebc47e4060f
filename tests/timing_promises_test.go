package tests

import (
	"slices"
	"testing"

	"loop.example/g01274/impl"
)

// fallsFit fails the test if the falls of a game do not fit windows.
func fallsFit(t *testing.T, name string, g gameOf, windows []impl.Window) {
	t.Helper()
	falls, c := impl.RunBoard(g.board, g.pushes)
	code(t, name, c, impl.OK)
	i, c := impl.FitsWindows(windows, falls)
	if c != impl.ErrNotFound || i != 0 {
		t.Errorf("%s: the fall %d, with the code %s, does not fit: falls %v, windows %v", name, i, impl.CodeName(c), falls, windows)
	}
}

// P13: whatever the delays are between their bounds, what falls fits its window.
func TestAllDelaysFit(t *testing.T) {
	games, runs := 0, 0
	for _, g := range append(someTimed(400), gateRow(1), gateRow(2), gateRow(3), lineRow(), ring(pushOf(0, 0, south, 2), pushOf(1, 1, north, 4))) {
		if choicesOf(g.spans) > 700 {
			continue
		}
		games++
		windows := windowsOf(t, g)
		withDelays(g, func(b impl.Board) {
			runs++
			fallsFit(t, "all delays", gameOf{b, g.pushes}, windows)
		})
	}
	if games < 150 || runs < 5000 {
		t.Errorf("only %d games and %d runs", games, runs)
	}
}

// P13, for more pieces: with delays by chance, from several seeds.
func TestChanceDelaysFit(t *testing.T) {
	for i, g := range append(someTimed(400), append(crowded(150), longRow(5, 2, 7))...) {
		windows := windowsOf(t, g)
		seed := uint32(i)
		for range 12 {
			b, next, c := impl.ChanceDelays(g.board, g.spans, seed)
			code(t, "ChanceDelays", c, impl.OK)
			fallsFit(t, "delays by chance", gameOf{b, g.pushes}, windows)
			seed = next
		}
	}
}

// endTicks are the least and greatest ticks at which a piece falls, the sides, and whether it always falls, with all delays.
func endTicks(g timedGame) []impl.Window {
	found := slices.Repeat([]impl.Window{windowOf(0, true, -1, -1)}, len(g.board.Pieces))
	withDelays(g, func(b impl.Board) {
		for i, f := range playedOut(gameOf{b, g.pushes}) {
			w := &found[i]
			if f == stay {
				w.Sure = false
				continue
			}
			w.Sides |= 1 << f.From
			w.Late = max(w.Late, f.Tick)
			if w.Early < 0 || f.Tick < w.Early {
				w.Early = f.Tick
			}
		}
	})
	for i := range found {
		if !found[i].Sure {
			found[i].Late = -1
		}
	}
	return found
}

// Windows that tell what may be the case are just as wide as what is, for pieces that do not hang on the same delay in two ways.
func TestWindowsAreReached(t *testing.T) {
	for _, g := range []timedGame{lineRow(), gateRow(0), gateRow(1), gateRow(2), gateRow(3), ring(pushOf(0, 0, south, 2)), ring(pushOf(0, 0, south, 0), pushOf(1, 1, west, 0)), equalSides(impl.PcCross, south, east, spanOf(1, 3))} {
		windowsAre(t, "reached", g, 0, endTicks(g)...)
	}
}

// With equal bounds the windows tell the falls themselves, and there are no races.
func TestEqualBounds(t *testing.T) {
	games := append(someGames(), gameOf{board: boardOf(1, 1)})
	for _, g := range crowded(150) {
		games = append(games, g.gameOf)
	}
	for _, g := range games {
		if len(g.board.Pieces) > 60 {
			continue
		}
		var want []impl.Window
		for _, f := range playedOut(g) {
			w := cannot
			if f != stay {
				w = windowOf(1<<f.From, true, f.Tick, f.Tick)
			}
			want = append(want, w)
		}
		one := timedGame{g, equalSpans(g.board)}
		windowsAre(t, "equal bounds", one, 0, want...)
		races, c := impl.RacesOf(g.board, g.pushes, one.spans)
		listIs(t, "no races", races, c)
		width, c := impl.SureWidth(g.board, g.pushes, 0)
		same(t, "SureWidth", []int64{width, c}, []int64{0, impl.OK})
	}
}

// isWithin tells whether all that a window tells was told by another one.
func isWithin(w, before impl.Window) bool {
	if before.Sure && (!w.Sure || w.Late > before.Late) {
		return false
	}
	return w.Sides&^before.Sides == 0 && (w.Early < 0 || w.Early >= before.Early)
}

// P14: narrower spans never make a sure piece unsure, nor any window wider.
func TestNarrowerSpans(t *testing.T) {
	d := dice(14)
	sure := 0
	for _, g := range append(someTimed(300), crowded(100)...) {
		before := windowsOf(t, g)
		for range 4 {
			for range 1 + d.upTo(4) {
				if len(g.spans) == 0 {
					continue
				}
				i := d.upTo(len(g.spans))
				s := g.spans[i]
				low := s.Low + int8(d.upTo(int(s.High-s.Low+1)))
				high := s.High - int8(d.upTo(int(s.High-low+1)))
				narrow, c := impl.NarrowSpan(g.spans, int64(i), int64(low), int64(high))
				code(t, "NarrowSpan", c, impl.OK)
				g.spans = narrow
			}
			after := windowsOf(t, g)
			for i := range after {
				if !isWithin(after[i], before[i]) {
					t.Errorf("the window %v was %v, with wider spans", after[i], before[i])
				}
				if after[i].Sure && !before[i].Sure {
					sure++
				}
			}
			before = after
		}
	}
	if sure < 5 {
		t.Errorf("only %d pieces have become sure", sure)
	}
}

// P14: spans that are as they were before tell the same.
func TestSameNarrowSpans(t *testing.T) {
	for _, g := range someTimed(40) {
		want := windowsOf(t, g)
		for i, s := range g.spans {
			narrow, c := impl.NarrowSpan(g.spans, int64(i), int64(s.Low), int64(s.High))
			listIs(t, "as before", narrow, c, g.spans...)
			windowsAre(t, "as before", timedGame{g.gameOf, narrow}, 0, want...)
		}
	}
}

// inTime are the indices of the pieces that are sure to fall until a tick.
func inTime(g timedGame, until int64) []int64 {
	windows, _ := windowsByHand(g)
	return indicesByHand(windows, func(w impl.Window) bool { return w.Sure && w.Late <= until })
}

// slackByHand gives away one tick after the other, as long as all pieces that have been in time still are.
func slackByHand(g timedGame, i int, until int64) int64 {
	needed := inTime(g, until)
	for more := int64(0); ; more++ {
		if g.spans[i].High == 9 {
			return more
		}
		g.spans = slices.Clone(g.spans)
		g.spans[i].High++
		still := inTime(g, until)
		for _, j := range needed {
			if !slices.Contains(still, j) {
				return more
			}
		}
	}
}

// slackIs fails the test if a piece has another slack.
func slackIs(t *testing.T, name string, g timedGame, i, until, want int64) {
	t.Helper()
	slack, c := impl.SlackFor(g.board, g.pushes, g.spans, i, until)
	same(t, name, []int64{slack, c}, []int64{want, impl.OK})
}

func TestSlackFor(t *testing.T) {
	row := lineRow()
	slackIs(t, "the last one is in time", row, 1, 7, 2)
	slackIs(t, "the last one is just in time", row, 1, 5, 0)
	slackIs(t, "the last one is not in time, the next one is", row, 0, 4, 2)
	slackIs(t, "both are", row, 0, 5, 0)
	slackIs(t, "one tick more", row, 0, 6, 1)
	slackIs(t, "only the first one is in time", row, 1, 1, 6)
	slackIs(t, "until 0", row, 0, 0, 7)
	slackIs(t, "none hangs on the last one", row, 2, 0, 8)
	slackIs(t, "none hangs on the last one", row, 2, 1000000, 8)
	slackIs(t, "until the last tick", row, 0, 1000000, 7)
	row.spans = manySpans(3, 9, 9)
	slackIs(t, "as slow as can be", row, 0, 1000000, 0)
	slackIs(t, "as slow as can be", row, 0, 18, 0)
	row.pushes = nil
	row.spans = threeSpans()
	slackIs(t, "none is sure", row, 0, 0, 7)
	slackIs(t, "none is sure", row, 2, 1000000, 8)
	// The gate has to be hit from the west before the tick of the push from the north.
	slackIs(t, "a push at 3", gateRow(3), 0, 1000000, 0)
	slackIs(t, "a push at 6", gateRow(6), 0, 1000000, 3)
	slackIs(t, "a push at 6, and the third one too late", gateRow(6), 0, 4, 2)
	slackIs(t, "a push at 2, the third one is not sure before", gateRow(2), 0, 1000000, 7)
	slackIs(t, "a push at 2, the gate stays in time", gateRow(2), 0, 2, 7)
}

// P14: slack is just what may be given away.
func TestSlackByHand(t *testing.T) {
	counts := map[int64]int{}
	for k, g := range append(someTimed(150), crowded(12)...) {
		for n := range 3 {
			if len(g.spans) == 0 {
				continue
			}
			i := (k + n*7) % len(g.spans)
			for _, until := range []int64{0, 3, 6, 1000000} {
				want := slackByHand(g, i, until)
				counts[want]++
				slackIs(t, "by hand", g, int64(i), until, want)
			}
		}
	}
	for slack := int64(0); slack <= 8; slack++ {
		if counts[slack] < 8 {
			t.Errorf("only %d times the slack %d", counts[slack], slack)
		}
	}
}

// wayByHand goes back from a piece that is sure to fall.
func wayByHand(g timedGame, r []reactions, late hitsByHand, i int) []int64 {
	least := leastHit(late[i])
	for side := range 4 {
		if r[i].falls[side] && pushedAt(g.gameOf, i, side, least) {
			return []int64{int64(i)}
		}
	}
	for side, j := range r[i].near {
		if late[i][side] == least && j >= 0 && leastHit(late[j])+int64(g.spans[j].High) == least {
			return append(wayByHand(g, r, late, int(j)), int64(i))
		}
	}
	return nil
}

func TestCriticalWayByHand(t *testing.T) {
	longest := 0
	for _, g := range append(someTimed(300), crowded(60)...) {
		_, late, _, _ := outlookByHand(g)
		r := reactionsIn(g.board)
		for i := range g.board.Pieces {
			way, c := impl.CriticalWay(g.board, g.pushes, g.spans, int64(i))
			if leastHit(late[i]) == noHit {
				listFails(t, "not sure", way, c, impl.ErrNotFound)
				continue
			}
			listIs(t, "by hand", way, c, wayByHand(g, r, late, i)...)
			longest = max(longest, len(way))
		}
	}
	if longest < 8 {
		t.Errorf("no way is longer than %d", longest)
	}
}

// wayIs fails the test if another way leads to the Late of a piece.
func wayIs(t *testing.T, name string, g timedGame, i int64, want ...int64) {
	t.Helper()
	way, c := impl.CriticalWay(g.board, g.pushes, g.spans, i)
	listIs(t, name, way, c, want...)
}

func TestCriticalWay(t *testing.T) {
	row := lineRow()
	for i, want := range [][]int64{{0}, {0, 1}, {0, 1, 2}} {
		wayIs(t, "a row", row, int64(i), want...)
	}
	wayIs(t, "a sure gate with two sides, of which the push comes last", gateRow(2), 1, 1)
	wayIs(t, "a gate that is hit before the push", gateRow(3), 2, 0, 1, 2)
	wayIs(t, "a gate that is pushed first", gateRow(1), 1, 1)
	// A cross, lines in the west and the north of it, and pushes of both.
	b := boardOf(2, 2, pieceOf(0, 1, impl.PcLine, 0, 1), pieceOf(1, 1, impl.PcCross, 0, 1), pieceOf(1, 0, impl.PcLine, 1, 1))
	g := timedGame{gameOf{b, []impl.Push{pushOf(0, 1, west, 0), pushOf(1, 0, north, 0)}}, []impl.Span{spanOf(1, 4), spanOf(1, 1), spanOf(2, 4)}}
	wayIs(t, "the least side of two at the same tick", g, 1, 2, 1)
	g.spans[0].High = 3
	wayIs(t, "the one that is sure sooner", g, 1, 0, 1)
	g.pushes = append(g.pushes, pushOf(1, 1, south, 3))
	wayIs(t, "a push at the same tick", g, 1, 1)
	g.pushes[2].Tick = 4
	wayIs(t, "a push behind it", g, 1, 0, 1)
	g.pushes[2].Tick = 2
	wayIs(t, "a push before it", g, 1, 1)
	g.board.Pieces[1].Kind, g.pushes[2].Tick = impl.PcLine, 3
	wayIs(t, "a push from a side from which it does not fall", g, 1, 0, 1)
	wayIs(t, "round a circle", ring(pushOf(0, 0, south, 2)), 3, 0, 1, 2, 3)
	wayIs(t, "a circle that is pushed twice", ring(pushOf(0, 0, south, 2), pushOf(1, 1, north, 5)), 3, 2, 3)
	wayIs(t, "a circle that is pushed too late", ring(pushOf(0, 0, south, 2), pushOf(1, 1, north, 7)), 3, 0, 1, 2, 3)
}

// widestIs fails the test if another piece, or another difference, is told.
func widestIs(t *testing.T, name string, g timedGame, want, by int64) {
	t.Helper()
	i, wide, c := impl.WidestSpan(g.board, g.pushes, g.spans)
	same(t, name, []int64{i, wide, c}, []int64{want, by, impl.OK})
}

func TestWidestSpan(t *testing.T) {
	row := lineRow()
	widestIs(t, "a row", row, 2, 3)
	row.spans = []impl.Span{spanOf(1, 2), spanOf(1, 1), spanOf(1, 9)}
	widestIs(t, "the first one of two", row, 1, 1)
	row.spans = manySpans(3, 4, 4)
	widestIs(t, "the first one of all", row, 0, 0)
	widestIs(t, "the third one is not sure", gateRow(2), 1, 1)
	widestIs(t, "the gate is pushed first", gateRow(0), 0, 0)
	widestIs(t, "the first one is not pushed", timedGame{gameOf{rowOf(0, 0, 0), []impl.Push{pushOf(1, 0, west, 9)}}, threeSpans()}, 2, 2)
	for _, g := range append(someTimed(200), crowded(30)...) {
		windows, _ := windowsByHand(g)
		sure := indicesByHand(windows, func(w impl.Window) bool { return w.Sure })
		if len(sure) == 0 {
			i, by, c := impl.WidestSpan(g.board, g.pushes, g.spans)
			same(t, "none is sure", []int64{i, by, c}, []int64{0, 0, impl.ErrNotFound})
			continue
		}
		wide := func(i int64) int64 { return windows[i].Late - windows[i].Early }
		best := sure[0]
		for _, i := range sure {
			if wide(i) > wide(best) {
				best = i
			}
		}
		widestIs(t, "by hand", g, best, wide(best))
	}
}

// widthIs fails the test if spans may be as wide as something else.
func widthIs(t *testing.T, name string, g gameOf, most, want int64) {
	t.Helper()
	width, c := impl.SureWidth(g.board, g.pushes, most)
	same(t, name, []int64{width, c}, []int64{want, impl.OK})
}

func TestSureWidth(t *testing.T) {
	gate := gateRow(3).gameOf
	for most, want := range []int64{0, 1, 1, 1, 1, 1, 1, 1, 1, 1} {
		widthIs(t, "a gate pushed at 3", gate, int64(most), want)
		widthIs(t, "three lines", lineRow().gameOf, int64(most), int64(most))
		widthIs(t, "a gate pushed first", gateRow(0).gameOf, int64(most), int64(most))
		widthIs(t, "no pieces", gameOf{board: boardOf(2, 2)}, int64(most), int64(most))
	}
	widthIs(t, "a gate pushed at 9", gateRow(9).gameOf, 9, 7)
	widthIs(t, "a gate pushed at 10, and a line that takes at most 9", gateRow(10).gameOf, 9, 9)
	widthIs(t, "a gate pushed at 2", gateRow(2).gameOf, 9, 0)
	counts := map[int64]int{}
	for k, one := range append(someTimed(200), crowded(20)...) {
		most := []int64{9, 3, 1, 0}[k%4]
		want := int64(0)
		for ; want < most; want++ {
			around := slices.Clone(one.spans)
			for i, p := range one.board.Pieces {
				around[i] = spanOf(p.Delay, min(9, p.Delay+int8(want)+1))
			}
			windows, _ := windowsByHand(timedGame{one.gameOf, around})
			if len(indicesByHand(windows, func(w impl.Window) bool { return w.Sides > 0 && (!w.Sure || sideCount(w) > 1) })) > 0 {
				break
			}
		}
		counts[want]++
		widthIs(t, "by hand", one.gameOf, most, want)
	}
	for _, want := range []int64{0, 1, 3, 9} {
		if counts[want] < 10 {
			t.Errorf("only %d times the width %d", counts[want], want)
		}
	}
}
