package tests

import (
	"slices"
	"testing"

	"loop.example/g01274/impl"
)

func TestChapter5Examples(t *testing.T) {
	b, w := boardOf(3, 2), wayOf(0, 0, west, 2, 1, east)
	cells, c := impl.ShortestCells(b, w)
	listIs(t, "cells", cells, c, cell(0, 0), cell(1, 0), cell(2, 0), cell(2, 1))
	pieces, c := impl.LinePieces(cells, west, east)
	listIs(t, "pieces", pieces, c, pieceOf(0, 0, impl.PcLine, 0, 1), pieceOf(1, 0, impl.PcLine, 0, 1), pieceOf(2, 0, impl.PcCorner, 0, 1), pieceOf(2, 1, impl.PcCorner, 2, 1))
	laid, c := impl.LayLine(b, w)
	boardIs(t, "laid", laid, c, boardOf(3, 2, pieces...))
	carries(t, "carried", laid, w, 4)
	slow, c := impl.LayWithDelay(b, w, 10)
	want := slices.Clone(pieces)
	want[0].Delay = 7
	boardIs(t, "with the delay 10", slow, c, boardOf(3, 2, want...))
	carries(t, "carried in 10", slow, w, 10)
	longer, c := impl.LongerCells(b, []impl.Cell{cell(0, 0), cell(1, 0)})
	listIs(t, "longer", longer, c, cell(0, 0), cell(0, 1), cell(1, 1), cell(1, 0))
}

// Of several shortest lines the one is returned that goes back on the first side each time.
func TestFirstSides(t *testing.T) {
	b := boardOf(3, 3)
	// From the east the west side is asked last, and from the south the north side first.
	cases := []struct {
		way  impl.Way
		want []impl.Cell
	}{
		{wayOf(0, 0, west, 2, 2, east), []impl.Cell{{0, 0}, {1, 0}, {2, 0}, {2, 1}, {2, 2}}},
		{wayOf(2, 2, east, 0, 0, west), []impl.Cell{{2, 2}, {2, 1}, {2, 0}, {1, 0}, {0, 0}}},
		{wayOf(2, 0, east, 0, 2, west), []impl.Cell{{2, 0}, {1, 0}, {0, 0}, {0, 1}, {0, 2}}},
		{wayOf(0, 2, west, 2, 0, east), []impl.Cell{{0, 2}, {1, 2}, {2, 2}, {2, 1}, {2, 0}}},
		{wayOf(1, 0, north, 2, 2, east), []impl.Cell{{1, 0}, {2, 0}, {2, 1}, {2, 2}}},
		{wayOf(2, 2, east, 1, 0, north), []impl.Cell{{2, 2}, {2, 1}, {2, 0}, {1, 0}}},
		{wayOf(1, 2, south, 0, 0, west), []impl.Cell{{1, 2}, {1, 1}, {1, 0}, {0, 0}}},
	}
	for _, one := range cases {
		cells, c := impl.ShortestCells(b, one.way)
		listIs(t, "cells", cells, c, one.want...)
	}
	// With a piece in the middle there are two ways round it.
	round := boardOf(3, 3, pieceOf(1, 1, impl.PcCross, 0, 1))
	cells, c := impl.ShortestCells(round, wayOf(0, 1, west, 2, 1, east))
	listIs(t, "north of it", cells, c, cell(0, 1), cell(0, 0), cell(1, 0), cell(2, 0), cell(2, 1))
	cells, c = impl.ShortestCells(round, wayOf(1, 0, north, 1, 2, south))
	listIs(t, "east of it", cells, c, cell(1, 0), cell(2, 0), cell(2, 1), cell(2, 2), cell(1, 2))
	cells, c = impl.ShortestCells(round, wayOf(2, 1, east, 0, 1, west))
	listIs(t, "north of it", cells, c, cell(2, 1), cell(2, 0), cell(1, 0), cell(0, 0), cell(0, 1))
	cells, c = impl.ShortestCells(round, wayOf(1, 2, south, 1, 0, north))
	listIs(t, "east of it", cells, c, cell(1, 2), cell(2, 2), cell(2, 1), cell(2, 0), cell(1, 0))
}

// The cells before and behind a line must not be among its cells.
func TestCellsInFront(t *testing.T) {
	b := boardOf(3, 2)
	states := []impl.Way{
		wayOf(0, 0, east, 2, 0, east),
		wayOf(0, 0, west, 2, 0, west),
		wayOf(0, 0, east, 2, 0, west),
		wayOf(0, 0, east, 1, 0, north),
		wayOf(0, 0, west, 1, 0, west),
		wayOf(0, 0, east, 2, 1, south),
		wayOf(0, 0, north, 2, 1, north),
	}
	for _, w := range states {
		cells, c := impl.ShortestCells(b, w)
		listFails(t, "among the cells", cells, c, impl.ErrState)
		laid, c := impl.LayLine(b, w)
		boardFails(t, "among the cells", laid, c, impl.ErrState)
		laid, c = impl.LayWithDelay(b, w, 1)
		boardFails(t, "among the cells", laid, c, impl.ErrState)
		laid, count, c := impl.LayAll(b, []impl.Way{w})
		boardFails(t, "among the cells", laid, c, impl.ErrState)
		same(t, "among the cells", count, int64(0))
	}
	// Only the first shortest line is asked: another one would not go through the cell in the east.
	cells, c := impl.ShortestCells(boardOf(2, 2), wayOf(0, 0, east, 1, 1, south))
	listFails(t, "another one would do", cells, c, impl.ErrState)
	cells, c = impl.ShortestCells(boardOf(2, 2), wayOf(0, 0, south, 1, 1, south))
	listIs(t, "not among the cells", cells, c, cell(0, 0), cell(1, 0), cell(1, 1))
	// In front of the ends there are a free cell, a piece, and no cell of the board.
	free := walled("....", "#..#", "....")
	cells, c = impl.ShortestCells(free, wayOf(1, 1, north, 2, 1, south))
	listIs(t, "free cells", cells, c, cell(1, 1), cell(2, 1))
	cells, c = impl.ShortestCells(free, wayOf(1, 1, west, 2, 1, east))
	listIs(t, "pieces", cells, c, cell(1, 1), cell(2, 1))
	cells, c = impl.ShortestCells(free, wayOf(1, 0, north, 2, 0, north))
	listIs(t, "none of the board", cells, c, cell(1, 0), cell(2, 0))
	cells, c = impl.ShortestCells(boardOf(24, 24), wayOf(23, 23, south, 23, 22, east))
	listIs(t, "none of any", cells, c, cell(23, 23), cell(23, 22))
}

// A way from a cell to itself has this cell alone.
func TestWaysToThemselves(t *testing.T) {
	for side := range int8(4) {
		for out := range int8(4) {
			if side == out {
				continue
			}
			for _, b := range []impl.Board{boardOf(1, 1), boardOf(5, 3), walled("...", ".##", ".#.")} {
				at := freeByHand(b)[len(freeByHand(b))-1]
				w := wayOf(at[0], at[1], side, at[0], at[1], out)
				cells, c := impl.ShortestCells(b, w)
				listIs(t, "one cell", cells, c, at)
				want, _ := piecesByHand(cells, int(side), int(out))
				laid, c := impl.LayLine(b, w)
				boardIs(t, "laid", laid, c, boardOf(b.Wide, b.High, slices.Concat(b.Pieces, want)...))
				carries(t, "carried", laid, w, 1)
			}
		}
	}
}

func TestUnreachedCells(t *testing.T) {
	for _, b := range []impl.Board{walled(".#."), walled("..#", ".#."), walled(".#..", "##..")} {
		to := freeByHand(b)[len(freeByHand(b))-1]
		// That the line would go through the cell in front of it does not matter then.
		for side := range int8(4) {
			w := wayOf(0, 0, side, to[0], to[1], west)
			cells, c := impl.ShortestCells(b, w)
			listFails(t, "not reached", cells, c, impl.ErrNotFound)
			laid, c := impl.LayLine(b, w)
			boardFails(t, "not reached", laid, c, impl.ErrNotFound)
			laid, c = impl.LayWithDelay(b, w, 1000)
			boardFails(t, "not reached", laid, c, impl.ErrNotFound)
			laid, _, c = impl.LayAll(b, []impl.Way{w})
			boardFails(t, "not reached", laid, c, impl.ErrNotFound)
		}
	}
}

func TestShortestCells(t *testing.T) {
	codes := map[int64]int{}
	for _, one := range someTasks(1500) {
		want, wantCode := shortestByHand(one.board, one.way)
		cells, c := impl.ShortestCells(one.board, one.way)
		codes[c]++
		code(t, "by hand", c, wantCode)
		if !slices.Equal(cells, want) {
			t.Errorf("%v: got %v, want %v", one, cells, want)
		}
	}
	for _, c := range []int64{impl.OK, impl.ErrInvalid, impl.ErrNotFound, impl.ErrState} {
		if codes[c] < 50 {
			t.Errorf("only %d times %s", codes[c], impl.CodeName(c))
		}
	}
}

// All turns of lines and corners, with one cell, and with the middle one of three.
func TestLinePieceTurns(t *testing.T) {
	for side := range int64(4) {
		for out := range int64(4) {
			want, ok := piecesByHand([]impl.Cell{{5, 5}}, int(side), int(out))
			pieces, c := impl.LinePieces([]impl.Cell{{5, 5}}, side, out)
			if !ok {
				listFails(t, "hit back", pieces, c, impl.ErrState)
				continue
			}
			listIs(t, "one cell", pieces, c, want...)
			before, behind := besideByHand(cell(5, 5), int(side)), besideByHand(cell(5, 5), int(out))
			three, c := impl.LinePieces([]impl.Cell{before, {5, 5}, behind}, side, out)
			code(t, "three cells", c, impl.OK)
			same(t, "the middle one", three[1], want[0])
			hits, _ := impl.HitsFrom(want[0], side)
			same(t, "hits", hits[out], true)
			for turn := range want[0].Turn {
				less := want[0]
				less.Turn = turn
				hits, _ = impl.HitsFrom(less, side)
				same(t, "no lesser turn does", hits[out], false)
			}
		}
	}
	pieces, c := impl.LinePieces([]impl.Cell{{0, 0}, {0, 1}, {1, 1}, {1, 0}}, north, north)
	listIs(t, "down and up", pieces, c, pieceOf(0, 0, impl.PcLine, 1, 1), pieceOf(0, 1, impl.PcCorner, 2, 1), pieceOf(1, 1, impl.PcCorner, 1, 1), pieceOf(1, 0, impl.PcLine, 1, 1))
	pieces, c = impl.LinePieces([]impl.Cell{{1, 1}, {0, 1}, {0, 0}, {1, 0}}, south, south)
	listIs(t, "round to the first one", pieces, c, pieceOf(1, 1, impl.PcCorner, 0, 1), pieceOf(0, 1, impl.PcCorner, 2, 1), pieceOf(0, 0, impl.PcCorner, 3, 1), pieceOf(1, 0, impl.PcCorner, 0, 1))
}

// snakeCells are so many cells that go to and fro on the largest board, row by row.
func snakeCells(count int) []impl.Cell {
	var cells []impl.Cell
	for i := range count {
		x, y := int8(i%24), int8(i/24)
		if y%2 == 1 {
			x = 23 - x
		}
		cells = append(cells, cell(x, y))
	}
	return cells
}

func TestLinePieceErrors(t *testing.T) {
	good := []impl.Cell{{0, 0}, {1, 0}, {1, 1}}
	bad := map[string][]impl.Cell{
		"none":               nil,
		"too many":           snakeCells(121),
		"far too many":       make([]impl.Cell, 300000),
		"east of any":        {{23, 0}, {24, 0}},
		"south of any":       {{0, 24}, {0, 23}},
		"west of any":        {{-1, 0}, {0, 0}},
		"north of any":       {{0, 0}, {0, -1}},
		"far away":           {{127, -128}},
		"from end to end":    {{127, 0}, {-128, 0}},
		"not beside":         {{0, 0}, {2, 0}},
		"at a corner":        {{0, 0}, {1, 1}},
		"not beside, later":  {{0, 0}, {1, 0}, {1, 2}},
		"the same at once":   {{3, 3}, {3, 3}},
		"there and back":     {{0, 0}, {1, 0}, {0, 0}},
		"round to the first": {{0, 0}, {1, 0}, {1, 1}, {0, 1}, {0, 0}},
		"the next row":       {{23, 0}, {0, 1}},
	}
	for name, cells := range bad {
		for _, sides := range [][2]int64{{west, east}, {east, east}, {-1, 9}} {
			pieces, c := impl.LinePieces(cells, sides[0], sides[1])
			listFails(t, name, pieces, c, impl.ErrRange)
		}
		longer, c := impl.LongerCells(boardOf(24, 24), cells)
		listFails(t, name, longer, c, impl.ErrRange)
	}
	for _, side := range []int64{-1, 4, 256, 259, -253, 1 << 32, least, greatest} {
		pieces, c := impl.LinePieces(good, side, east)
		listFails(t, "no side", pieces, c, impl.ErrRange)
		pieces, c = impl.LinePieces(good, west, side)
		listFails(t, "no out", pieces, c, impl.ErrRange)
		// The first piece, or the last one, would hit back, but this is asked later.
		pieces, c = impl.LinePieces(good, east, side)
		listFails(t, "no out, hit back", pieces, c, impl.ErrRange)
		pieces, c = impl.LinePieces(good, side, north)
		listFails(t, "no side, hit back", pieces, c, impl.ErrRange)
		pieces, c = impl.LinePieces([]impl.Cell{{5, 5}}, side, side)
		listFails(t, "neither", pieces, c, impl.ErrRange)
	}
	for _, sides := range [][2]int64{{east, east}, {east, north}, {west, north}} {
		pieces, c := impl.LinePieces(good, sides[0], sides[1])
		listFails(t, "hit back", pieces, c, impl.ErrState)
	}
}

func TestLinePieceLimits(t *testing.T) {
	most := snakeCells(120)
	want, _ := piecesByHand(most, west, east)
	pieces, c := impl.LinePieces(most, west, east)
	listIs(t, "120 cells", pieces, c, want...)
	same(t, "120 pieces", len(pieces), 120)
	pieces, c = impl.LinePieces([]impl.Cell{{23, 23}}, south, east)
	listIs(t, "the last cell", pieces, c, pieceOf(23, 23, impl.PcCorner, 3, 1))
	pieces, c = impl.LinePieces([]impl.Cell{{0, 23}, {0, 22}}, south, north)
	listIs(t, "to the north", pieces, c, pieceOf(0, 23, impl.PcLine, 1, 1), pieceOf(0, 22, impl.PcLine, 1, 1))
}

func TestLinePiecesByHand(t *testing.T) {
	codes := map[int64]int{}
	d := dice(5)
	for range 600 {
		cells := []impl.Cell{cell(int8(d.upTo(24)), int8(d.upTo(24)))}
		for range d.upTo(40) {
			next := besideByHand(cells[len(cells)-1], d.upTo(4))
			if !slices.Contains(cells, next) && next[0] >= 0 && next[0] < 24 && next[1] >= 0 && next[1] < 24 {
				cells = append(cells, next)
			}
		}
		side, out := d.upTo(4), d.upTo(4)
		want, ok := piecesByHand(cells, side, out)
		pieces, c := impl.LinePieces(cells, int64(side), int64(out))
		codes[c]++
		if ok {
			listIs(t, "by hand", pieces, c, want...)
		} else {
			listFails(t, "by hand", pieces, c, impl.ErrState)
		}
	}
	if codes[impl.OK] < 100 || codes[impl.ErrState] < 100 {
		t.Errorf("only %v", codes)
	}
}

// P11: a line that is laid is hit from piece to piece, each one a tick later, and nothing else falls before its end.
func TestLinesCarryPushes(t *testing.T) {
	laidLines := 0
	for _, one := range someTasks(1500) {
		want, wantCode := shortestLaidByHand(one.board, one.way)
		laid, c := impl.LayLine(one.board, one.way)
		if wantCode != impl.OK {
			boardFails(t, "LayLine", laid, c, wantCode)
			continue
		}
		boardIs(t, "LayLine", laid, c, want)
		laidLines++
		before := len(one.board.Pieces)
		line := laid.Pieces[before:]
		same(t, "valid", impl.ValidBoard(laid), true)
		falls, _ := impl.RunBoard(laid, []impl.Push{{At: one.way.From, Side: one.way.Side}})
		for i := range line {
			fall := falls[before+i]
			by := int64(-1)
			if i > 0 {
				by = int64(before + i - 1)
			}
			same(t, "each hits the next one", []int64{fall.Tick, fall.By}, []int64{int64(i), by})
		}
		delay, c := impl.DelayOfLine(line)
		same(t, "delay", []int64{delay, c}, []int64{int64(len(line)), impl.OK})
		carries(t, "carried", laid, one.way, delay)
		distances := distancesByHand(one.board, one.way.From)
		same(t, "as few as can be", int64(len(line)), distances[one.way.To]+1)
	}
	if laidLines < 300 {
		t.Errorf("only %d lines", laidLines)
	}
}

func TestLayLineLimits(t *testing.T) {
	b := winding()
	most, c := impl.LayLine(b, wayOf(0, 0, west, 21, 0, north))
	code(t, "120 cells", c, impl.OK)
	same(t, "120 cells", len(most.Pieces), 195)
	carries(t, "120 cells", most, wayOf(0, 0, west, 21, 0, north), 120)
	for _, x := range []int8{22, 23} {
		laid, c := impl.LayLine(b, wayOf(0, 0, west, x, 0, north))
		boardFails(t, "121 cells and more", laid, c, impl.ErrLimit)
	}
	laid, c := impl.LayLine(b, wayOf(0, 0, west, 22, 0, south))
	boardFails(t, "121 cells, one of them behind the end", laid, c, impl.ErrState)
	cells, c := impl.ShortestCells(b, wayOf(0, 0, west, 23, 0, north))
	same(t, "cells have no limit", []int64{int64(len(cells)), c}, []int64{122, impl.OK})
	// There are 195 pieces; the last row is free.
	full := fullBoard(24, 10, 195)
	laid, c = impl.LayLine(full, wayOf(0, 9, west, 4, 9, east))
	code(t, "200 pieces", c, impl.OK)
	same(t, "200 pieces", len(laid.Pieces), 200)
	laid, c = impl.LayLine(full, wayOf(0, 9, west, 5, 9, east))
	boardFails(t, "201 pieces", laid, c, impl.ErrLimit)
	laid, c = impl.LayLine(fullBoard(24, 10, 200), wayOf(0, 9, west, 0, 9, east))
	boardFails(t, "one more than 200", laid, c, impl.ErrLimit)
	laid, c = impl.LayLine(fullBoard(24, 10, 200), wayOf(0, 9, east, 1, 9, east))
	boardFails(t, "the cell in front comes first", laid, c, impl.ErrState)
	laid, c = impl.LayLine(fullBoard(24, 10, 199), wayOf(0, 9, west, 0, 9, east))
	same(t, "the last one", []any{len(laid.Pieces), c}, []any{200, int64(impl.OK)})
	laid, c = impl.LayLine(fullBoard(20, 10, 200), wayOf(0, 0, west, 0, 0, east))
	boardFails(t, "full", laid, c, impl.ErrInvalid)
}

// P11: lines from end to end of the largest boards.
func TestLinesOfTheLargestBoards(t *testing.T) {
	empty := boardOf(24, 24)
	for _, w := range []impl.Way{wayOf(0, 0, west, 23, 23, east), wayOf(23, 0, north, 0, 23, south), wayOf(23, 23, south, 0, 0, north), wayOf(0, 23, west, 23, 0, east)} {
		laid, c := impl.LayLine(empty, w)
		code(t, "from end to end", c, impl.OK)
		same(t, "from end to end", len(laid.Pieces), 47)
		carries(t, "from end to end", laid, w, 47)
	}
	for _, b := range []impl.Board{boardOf(24, 1), boardOf(1, 24)} {
		w := wayOf(0, 0, north, b.Wide-1, b.High-1, south)
		if b.High > 1 {
			w.Side, w.Out = west, east
		}
		laid, c := impl.LayLine(b, w)
		code(t, "one row", c, impl.OK)
		carries(t, "one row", laid, w, 24)
	}
}
