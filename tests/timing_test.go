package tests

import (
	"slices"
	"testing"

	"loop.example/g01274/impl"
)

// threeSpans are those of the examples of chapter 6.
func threeSpans() []impl.Span { return []impl.Span{spanOf(1, 2), spanOf(1, 3), spanOf(1, 1)} }

// gateRow are the line, gate and line of the examples, with a push of the gate from the north.
func gateRow(tick int16) timedGame {
	b := rowOf(impl.PcLine, impl.PcGate, impl.PcLine)
	return timedGame{gameOf{b, []impl.Push{pushOf(0, 0, west, 0), pushOf(1, 0, north, tick)}}, threeSpans()}
}

func lineRow() timedGame {
	return timedGame{gameOf{rowOf(0, 0, 0), []impl.Push{pushOf(0, 0, west, 0)}}, threeSpans()}
}

// The examples at the end of chapter 6.
func TestChapter6Examples(t *testing.T) {
	first, third := windowOf(fromWest, true, 0, 0), windowOf(fromWest, true, 2, 5)
	windowsAre(t, "three lines", lineRow(), 2, first, windowOf(fromWest, true, 1, 2), third)
	windowsAre(t, "a gate pushed at 3", gateRow(3), 0, first, windowOf(fromWest, true, 1, 2), third)
	races := gateRow(2)
	windowsAre(t, "a gate pushed at 2", races, 0, first, windowOf(fromWest+fromNorth, true, 1, 2), windowOf(fromWest, false, 2, -1))
	for _, tick := range []int16{0, 1} {
		windowsAre(t, "a gate pushed before", gateRow(tick), 0, first, windowOf(fromNorth, true, int64(tick), int64(tick)), cannot)
	}
}

// equalSides is a piece that is pushed from one side at the tick 1, and hit from another one by a line, at 1 or 2.
func equalSides(kind int8, pushed, hit int8, line impl.Span) timedGame {
	at := besideByHand(cell(1, 1), int(hit))
	b := boardOf(3, 3, pieceOf(at[0], at[1], impl.PcLine, (hit+1)%2, 1), pieceOf(1, 1, kind, 0, 1))
	list := []impl.Push{{At: at, Side: hit}, pushOf(1, 1, pushed, 1)}
	return timedGame{gameOf{b, list}, []impl.Span{line, spanOf(1, 1)}}
}

// Of an earliest and a latest hit at the same tick, that from the side with the lesser number comes first.
func TestHitsAtEqualTicks(t *testing.T) {
	for pushed := range int8(4) {
		for hit := range int8(4) {
			if pushed == hit {
				continue
			}
			lineWindow := windowOf(1<<hit, true, 0, 0)
			for _, kind := range []int8{impl.PcCross, impl.PcGate} {
				both, one := equalSides(kind, pushed, hit, spanOf(1, 2)), equalSides(kind, pushed, hit, spanOf(1, 1))
				pushedOnly, hitOnly := windowOf(1<<pushed, true, 1, 1), windowOf(1<<hit, true, 1, 1)
				if pushed < hit {
					windowsAre(t, "the push is before all hits", both, 0, lineWindow, pushedOnly)
					windowsAre(t, "the push is before the hit", one, 0, lineWindow, pushedOnly)
				} else {
					windowsAre(t, "the hit may be before the push", both, 0, lineWindow, windowOf(1<<pushed|1<<hit, true, 1, 1))
					windowsAre(t, "the hit is before the push", one, 0, lineWindow, hitOnly)
				}
				windowsAre(t, "the hit is later", equalSides(kind, pushed, hit, spanOf(2, 3)), 0, lineWindow, pushedOnly)
			}
		}
	}
}

// A side from which a piece does not fall has no hits, whatever comes from there.
func TestHitsFromOtherSides(t *testing.T) {
	b := boardOf(1, 1, pieceOf(0, 0, impl.PcLine, 0, 1))
	list := []impl.Push{pushOf(0, 0, north, 0), pushOf(0, 0, west, 7), pushOf(0, 0, south, 1)}
	windowsAre(t, "pushes", timedGame{gameOf{b, list}, manySpans(1, 1, 1)}, 2, windowOf(fromWest, true, 7, 7))
	windowsAre(t, "pushes that do nothing", timedGame{gameOf{b, list[:1]}, manySpans(1, 1, 1)}, 1, cannot)
	b = boardOf(2, 1, pieceOf(0, 0, impl.PcLine, 0, 1), pieceOf(1, 0, impl.PcLine, 1, 1))
	windowsAre(t, "a line across", timedGame{gameOf{b, []impl.Push{pushOf(0, 0, west, 0)}}, manySpans(2, 1, 3)}, 2, windowOf(fromWest, true, 0, 0), cannot)
	b.Pieces[0] = pieceOf(0, 0, impl.PcGate, 0, 1)
	b.Pieces[1].Turn = 0
	windowsAre(t, "a gate that hits none", timedGame{gameOf{b, []impl.Push{pushOf(0, 0, south, 4)}}, manySpans(2, 1, 3)}, 2, windowOf(fromSouth, true, 4, 4), cannot)
}

// ring are four corners, each of which hits the next one, as a clock goes, if the first one falls from the south.
func ring(list ...impl.Push) timedGame {
	b := boardOf(2, 2, pieceOf(0, 0, impl.PcCorner, 3, 1), pieceOf(1, 0, impl.PcCorner, 0, 1), pieceOf(1, 1, impl.PcCorner, 1, 1), pieceOf(0, 1, impl.PcCorner, 2, 1))
	return timedGame{gameOf{b, list}, manySpans(4, 1, 2)}
}

// Hits that lead round a circle of pieces begin with a push.
func TestHitsRoundACircle(t *testing.T) {
	windowsAre(t, "none is pushed", ring(), 1, cannot, cannot, cannot, cannot)
	windowsAre(t, "pushed from outside", ring(pushOf(0, 0, north, 0)), 1, cannot, cannot, cannot, cannot)
	windowsAre(t, "as a clock goes", ring(pushOf(0, 0, south, 2)), 2,
		windowOf(fromSouth, true, 2, 2), windowOf(fromWest, true, 3, 4), windowOf(fromNorth, true, 4, 6), windowOf(fromEast, true, 5, 8))
	windowsAre(t, "the other way", ring(pushOf(0, 0, east, 0), pushOf(0, 0, south, 0)), 0,
		windowOf(fromEast, true, 0, 0), windowOf(fromSouth, true, 3, 6), windowOf(fromWest, true, 2, 4), windowOf(fromNorth, true, 1, 2))
	windowsAre(t, "two pushes after each other", ring(pushOf(0, 0, south, 2), pushOf(1, 1, north, 3)), 2,
		windowOf(fromSouth, true, 2, 2), windowOf(fromWest, true, 3, 4), windowOf(fromNorth, true, 3, 3), windowOf(fromEast, true, 4, 5))
	windowsAre(t, "the same push twice, and a later one", ring(pushOf(0, 0, south, 9), pushOf(0, 0, south, 2), pushOf(0, 0, south, 2)), 2,
		windowOf(fromSouth, true, 2, 2), windowOf(fromWest, true, 3, 4), windowOf(fromNorth, true, 4, 6), windowOf(fromEast, true, 5, 8))
	windowsAre(t, "against each other", ring(pushOf(0, 0, south, 0), pushOf(1, 1, west, 0)), 0,
		windowOf(fromSouth, true, 0, 0), windowOf(fromSouth+fromWest, true, 1, 2), windowOf(fromWest, true, 0, 0), cannot)
}

// A piece is sure also if it is not known from which side it falls, and so is one that it hits in either way.
func TestSureWhateverSide(t *testing.T) {
	b := boardOf(2, 3, pieceOf(1, 0, impl.PcLine, 1, 1), pieceOf(1, 1, impl.PcFork, 0, 1), pieceOf(1, 2, impl.PcLine, 1, 1), pieceOf(0, 1, impl.PcLine, 0, 1))
	g := timedGame{gameOf{b, []impl.Push{pushOf(1, 0, north, 0), pushOf(1, 1, west, 1)}}, []impl.Span{spanOf(1, 2), spanOf(2, 3), spanOf(1, 1), spanOf(1, 1)}}
	windowsAre(t, "a fork", g, 0, windowOf(fromNorth, true, 0, 0), windowOf(fromNorth+fromWest, true, 1, 1), windowOf(fromNorth, true, 3, 4), windowOf(fromEast, false, 3, -1))
	can, c := impl.CanFall(g.board, g.pushes, g.spans)
	listIs(t, "CanFall", can, c, 0, 1, 2, 3)
	must, c := impl.MustFall(g.board, g.pushes, g.spans)
	listIs(t, "MustFall", must, c, 0, 1, 2)
	races, c := impl.RacesOf(g.board, g.pushes, g.spans)
	listIs(t, "RacesOf", races, c, 1, 3)
}

func TestRounds(t *testing.T) {
	windowsAre(t, "no pieces", timedGame{gameOf: gameOf{board: boardOf(3, 3)}}, 1)
	windowsAre(t, "no pushes", timedGame{gameOf{board: rowOf(0, 0)}, manySpans(2, 1, 9)}, 1, cannot, cannot)
	// The first round finds the latest hits by the pushes, the next three ones that one line after the other falls from the west alone, and the fifth one nothing more.
	row := timedGame{gameOf{rowOf(0, 0, 0), []impl.Push{pushOf(0, 0, west, 0), pushOf(2, 0, east, 5)}}, manySpans(3, 1, 1)}
	windowsAre(t, "pushes from both ends", row, 5, windowOf(fromWest, true, 0, 0), windowOf(fromWest, true, 1, 1), windowOf(fromWest, true, 2, 2))
	row.spans = manySpans(3, 1, 4)
	windowsAre(t, "pushes that meet", row, 0, windowOf(fromWest, true, 0, 0), windowOf(fromWest, true, 1, 4), windowOf(fromEast+fromWest, true, 2, 5))
}

// Delays of the pieces do not matter, nor does the order of the pushes, nor one that comes too late.
func TestWindowsWithOtherDelays(t *testing.T) {
	for i, g := range someTimed(100) {
		want := windowsOf(t, g)
		g.board.Pieces = slices.Clone(g.board.Pieces)
		for j := range g.board.Pieces {
			g.board.Pieces[j].Delay = int8(1 + (i+j)%9)
		}
		slices.Reverse(g.pushes)
		windowsAre(t, "other delays", g, 0, want...)
		if len(g.pushes) < 20 && len(g.pushes) > 0 {
			late := g.pushes[0]
			late.Tick = 1000
			g.pushes = append(g.pushes, late)
			windowsAre(t, "a late push", g, 0, want...)
		}
	}
}

// crowded are games of 60 pieces, in which most windows have something to do with each other.
func crowded(count int) []timedGame {
	var all []timedGame
	d := dice(62)
	for i := range count {
		g := crossroads(&d)
		all = append(all, timedGame{g, chanceSpans(&d, 60, 1+i%4)})
	}
	return all
}

// Windows, and rounds, are as the document tells, going tick by tick.
func TestWindowsByHand(t *testing.T) {
	several, unsure, rounds := 0, 0, map[int64]int{}
	for _, g := range append(someTimed(600), crowded(150)...) {
		want, count := windowsByHand(g)
		rounds[count]++
		windowsAre(t, "by hand", g, count, want...)
		for _, w := range want {
			if sideCount(w) > 1 {
				several++
			}
			if w.Sides > 0 && !w.Sure {
				unsure++
			}
		}
	}
	if several < 100 || unsure < 200 {
		t.Errorf("only %d with several sides, and %d that are not sure", several, unsure)
	}
	for count := int64(1); count <= 5; count++ {
		if rounds[count] < 10 {
			t.Errorf("only %d times %d rounds", rounds[count], count)
		}
	}
}

// indicesByHand are the indices of windows that are as asked for.
func indicesByHand(windows []impl.Window, asked func(impl.Window) bool) []int64 {
	var indices []int64
	for i, w := range windows {
		if asked(w) {
			indices = append(indices, int64(i))
		}
	}
	return indices
}

func TestFallsByWindows(t *testing.T) {
	for _, g := range append(someTimed(200), crowded(20)...) {
		windows, _ := windowsByHand(g)
		can, c := impl.CanFall(g.board, g.pushes, g.spans)
		listIs(t, "CanFall", can, c, indicesByHand(windows, func(w impl.Window) bool { return w.Early >= 0 })...)
		must, c := impl.MustFall(g.board, g.pushes, g.spans)
		listIs(t, "MustFall", must, c, indicesByHand(windows, func(w impl.Window) bool { return w.Late >= 0 })...)
		races, c := impl.RacesOf(g.board, g.pushes, g.spans)
		listIs(t, "RacesOf", races, c, indicesByHand(windows, func(w impl.Window) bool {
			return sideCount(w) >= 2 || sideCount(w) == 1 && w.Late < 0
		})...)
	}
}

func TestFallsOfRows(t *testing.T) {
	for _, one := range []struct {
		name             string
		game             timedGame
		can, must, races []int64
	}{
		{"lines", lineRow(), []int64{0, 1, 2}, []int64{0, 1, 2}, nil},
		{"a gate at 3", gateRow(3), []int64{0, 1, 2}, []int64{0, 1, 2}, nil},
		{"a gate at 2", gateRow(2), []int64{0, 1, 2}, []int64{0, 1}, []int64{1, 2}},
		{"a gate at 1", gateRow(1), []int64{0, 1}, []int64{0, 1}, nil},
		{"no pushes", timedGame{gameOf{board: rowOf(0, 0)}, manySpans(2, 1, 9)}, nil, nil, nil},
		{"no pieces", timedGame{gameOf: gameOf{board: boardOf(1, 1)}}, nil, nil, nil},
	} {
		can, c := impl.CanFall(one.game.board, one.game.pushes, one.game.spans)
		listIs(t, one.name, can, c, one.can...)
		must, c := impl.MustFall(one.game.board, one.game.pushes, one.game.spans)
		listIs(t, one.name, must, c, one.must...)
		races, c := impl.RacesOf(one.game.board, one.game.pushes, one.game.spans)
		listIs(t, one.name, races, c, one.races...)
	}
}

// longRow are 60 pieces that go to and fro; each one makes the next one fall.
func longRow(tick int16, low, high int8) timedGame {
	line, _ := impl.LinePieces(snakeCells(60), west, east)
	return timedGame{gameOf{boardOf(24, 24, line...), []impl.Push{pushOf(0, 0, west, tick)}}, manySpans(60, low, high)}
}

// The latest tick that there can be is behind a push at MaxTick, and 59 pieces that are as slow as can be.
func TestMostPieces(t *testing.T) {
	g := longRow(1000, 1, 9)
	windows := windowsOf(t, g)
	for i, w := range windows {
		same(t, "window", []any{sideCount(w), w.Sure, w.Early, w.Late}, []any{1, true, int64(1000 + i), int64(1000 + 9*i)})
	}
	way, c := impl.CriticalWay(g.board, g.pushes, g.spans, 59)
	listIs(t, "CriticalWay", way, c, indicesByHand(windows, func(impl.Window) bool { return true })...)
	widest, by, c := impl.WidestSpan(g.board, g.pushes, g.spans)
	same(t, "WidestSpan", []int64{widest, by, c}, []int64{59, 59 * 8, impl.OK})
	slack, c := impl.SlackFor(g.board, g.pushes, manySpans(60, 1, 1), 0, 1059)
	same(t, "SlackFor", []int64{slack, c}, []int64{0, impl.OK})
	slack, c = impl.SlackFor(g.board, g.pushes, manySpans(60, 1, 1), 58, 1060)
	same(t, "SlackFor", []int64{slack, c}, []int64{1, impl.OK})
	width, c := impl.SureWidth(g.board, g.pushes, 9)
	same(t, "SureWidth", []int64{width, c}, []int64{9, impl.OK})
}

func TestSameWindows(t *testing.T) {
	list := []impl.Window{windowOf(8, true, 1, 2), windowOf(9, false, 2, -1), cannot}
	same(t, "equal", impl.SameWindows(list, slices.Clone(list)), true)
	same(t, "nil and empty", impl.SameWindows(nil, []impl.Window{}), true)
	same(t, "fewer", impl.SameWindows(list, list[:2]), false)
	same(t, "more", impl.SameWindows(nil, list), false)
	for i := range list {
		for _, other := range []impl.Window{windowOf(list[i].Sides+1, list[i].Sure, list[i].Early, list[i].Late), windowOf(list[i].Sides, !list[i].Sure, list[i].Early, list[i].Late),
			windowOf(list[i].Sides, list[i].Sure, list[i].Early+1, list[i].Late), windowOf(list[i].Sides, list[i].Sure, list[i].Early, list[i].Late-1)} {
			changed := slices.Clone(list)
			changed[i] = other
			same(t, "another one", impl.SameWindows(list, changed), false)
		}
	}
	swapped := []impl.Window{list[1], list[0], list[2]}
	same(t, "another order", impl.SameWindows(list, swapped), false)
	wrong := []impl.Window{windowOf(255, true, least, greatest)}
	same(t, "windows of no piece", impl.SameWindows(wrong, slices.Clone(wrong)), true)
}
