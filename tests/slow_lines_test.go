package tests

import (
	"slices"
	"testing"

	"loop.example/g01274/impl"
)

// straightLine has so many lines beside each other, on as many rows as it needs.
func straightLine(count int) []impl.Piece {
	pieces, _ := piecesByHand(snakeCells(count), west, north)
	if count%24 == 0 {
		pieces, _ = piecesByHand(snakeCells(count), west, south)
	}
	return pieces
}

func TestDelayOfLine(t *testing.T) {
	list := []impl.Piece{pieceOf(0, 0, impl.PcLine, 0, 9), pieceOf(5, 5, impl.PcCross, 2, 1), pieceOf(0, 0, impl.PcGate, 1, 4), pieceOf(23, 23, impl.PcCorner, 3, 7)}
	sum, c := impl.DelayOfLine(list)
	same(t, "wherever they are", []int64{sum, c}, []int64{21, impl.OK})
	sum, c = impl.DelayOfLine(nil)
	same(t, "none", []int64{sum, c}, []int64{0, impl.OK})
	sum, c = impl.DelayOfLine(slices.Repeat(list[:1], 120))
	same(t, "the most", []int64{sum, c}, []int64{1080, impl.OK})
}

func TestCornersIn(t *testing.T) {
	list := []impl.Piece{pieceOf(0, 0, impl.PcCorner, 3, 9), pieceOf(5, 5, impl.PcCross, 1, 1), pieceOf(1, 0, impl.PcCorner, 0, 1), pieceOf(2, 0, impl.PcLine, 1, 1), pieceOf(2, 1, impl.PcFork, 1, 1)}
	count, c := impl.CornersIn(list)
	same(t, "two", []int64{count, c}, []int64{2, impl.OK})
	count, c = impl.CornersIn(list[3:])
	same(t, "no corner", []int64{count, c}, []int64{0, impl.OK})
	count, c = impl.CornersIn(nil)
	same(t, "no piece", []int64{count, c}, []int64{0, impl.OK})
	count, c = impl.CornersIn(slices.Repeat(list[:1], 120))
	same(t, "the most", []int64{count, c}, []int64{120, impl.OK})
	for _, kind := range []int8{impl.PcLine, impl.PcFork, impl.PcOneWay, impl.PcGate, impl.PcCross} {
		count, c = impl.CornersIn([]impl.Piece{pieceOf(0, 0, kind, 1, 1)})
		same(t, "other kinds", []int64{count, c}, []int64{0, impl.OK})
	}
}

func TestErrorsOfPieces(t *testing.T) {
	good := pieceOf(0, 0, impl.PcCorner, 0, 1)
	fails := func(name string, list []impl.Piece, want int64) {
		t.Helper()
		sum, c := impl.DelayOfLine(list)
		numberFails(t, name+", DelayOfLine", sum, c, want)
		count, c := impl.CornersIn(list)
		numberFails(t, name+", CornersIn", count, c, want)
		for _, delay := range []int64{-1, 0, 1, 5, 1000, 100001} {
			slow, c := impl.SlowLine(list, delay)
			listFails(t, name+", SlowLine", slow, c, want)
		}
	}
	for _, bad := range badPieces() {
		fails("not valid", []impl.Piece{bad}, impl.ErrInvalid)
		fails("one of two not valid", []impl.Piece{good, bad}, impl.ErrInvalid)
		fails("not valid, and too many", append(slices.Repeat([]impl.Piece{good}, 121), bad), impl.ErrInvalid)
	}
	fails("too many", slices.Repeat([]impl.Piece{good}, 121), impl.ErrRange)
	fails("far too many", slices.Repeat([]impl.Piece{good}, 200000), impl.ErrRange)
}

// delaysOf are the Delays of pieces.
func delaysOf(pieces []impl.Piece) []int {
	var delays []int
	for _, p := range pieces {
		delays = append(delays, int(p.Delay))
	}
	return delays
}

func TestSlowLine(t *testing.T) {
	list := []impl.Piece{pieceOf(3, 0, impl.PcLine, 0, 5), pieceOf(9, 9, impl.PcFork, 3, 9), pieceOf(3, 0, impl.PcCorner, 2, 1)}
	cases := []struct {
		delay int64
		want  []int
	}{
		{3, []int{1, 1, 1}}, {4, []int{2, 1, 1}}, {10, []int{8, 1, 1}}, {11, []int{9, 1, 1}}, {12, []int{9, 2, 1}}, {15, []int{9, 5, 1}},
		{19, []int{9, 9, 1}}, {20, []int{9, 9, 2}}, {26, []int{9, 9, 8}}, {27, []int{9, 9, 9}},
	}
	for _, one := range cases {
		slow, c := impl.SlowLine(list, one.delay)
		code(t, "SlowLine", c, impl.OK)
		same(t, "delays", delaysOf(slow), one.want)
		for i, p := range slow {
			p.Delay = list[i].Delay
			same(t, "all else stays", p, list[i])
		}
	}
	for _, delay := range []int64{0, 1, 2, 28, 29, 1000, 100000} {
		slow, c := impl.SlowLine(list, delay)
		listFails(t, "no such sum", slow, c, impl.ErrNotFound)
	}
	for _, delay := range []int64{-1, -3, 100001, 1 << 32, 1<<32 + 3, least, least + 3, greatest} {
		slow, c := impl.SlowLine(list, delay)
		listFails(t, "no such delay", slow, c, impl.ErrRange)
		slow, c = impl.SlowLine(nil, delay)
		listFails(t, "no such delay", slow, c, impl.ErrRange)
	}
	none, c := impl.SlowLine(nil, 0)
	listIs(t, "none", none, c)
	none, c = impl.SlowLine(nil, 1)
	listFails(t, "none, and one tick", none, c, impl.ErrNotFound)
}

func TestSlowLineByHand(t *testing.T) {
	for _, count := range []int{1, 2, 5, 24, 119, 120} {
		list := straightLine(count)
		for delay := range 9*count + 3 {
			want, ok := slowByHand(list, delay)
			slow, c := impl.SlowLine(list, int64(delay))
			if !ok {
				listFails(t, "no such sum", slow, c, impl.ErrNotFound)
				continue
			}
			listIs(t, "by hand", slow, c, want...)
			sum, c := impl.DelayOfLine(slow)
			same(t, "the sum", []int64{sum, c}, []int64{int64(delay), impl.OK})
			// How slow they have been does not matter.
			again, c := impl.SlowLine(slow, int64(count))
			listIs(t, "as quick as before", again, c, list...)
		}
	}
}

func TestLongerCells(t *testing.T) {
	row := []impl.Cell{{1, 1}, {2, 1}}
	cases := []struct {
		name  string
		board impl.Board
		cells []impl.Cell
		want  []impl.Cell
	}{
		{"the north first", boardOf(4, 3), row, []impl.Cell{{1, 1}, {1, 0}, {2, 0}, {2, 1}}},
		{"the south, behind a piece", walled("..#.", "....", "...."), row, []impl.Cell{{1, 1}, {1, 2}, {2, 2}, {2, 1}}},
		{"the south, behind another piece", walled(".#..", "....", "...."), row, []impl.Cell{{1, 1}, {1, 2}, {2, 2}, {2, 1}}},
		{"the south, at the end of the board", boardOf(2, 2), []impl.Cell{{1, 0}, {0, 0}}, []impl.Cell{{1, 0}, {1, 1}, {0, 1}, {0, 0}}},
		{"the north, at the end of the board", boardOf(2, 2), []impl.Cell{{0, 1}, {1, 1}}, []impl.Cell{{0, 1}, {0, 0}, {1, 0}, {1, 1}}},
		{"the east first", boardOf(3, 2), []impl.Cell{{1, 0}, {1, 1}}, []impl.Cell{{1, 0}, {2, 0}, {2, 1}, {1, 1}}},
		{"the west, behind a piece", walled("...", "..#"), []impl.Cell{{1, 1}, {1, 0}}, []impl.Cell{{1, 1}, {0, 1}, {0, 0}, {1, 0}}},
		{"the west, at the end of the board", boardOf(2, 2), []impl.Cell{{1, 1}, {1, 0}}, []impl.Cell{{1, 1}, {0, 1}, {0, 0}, {1, 0}}},
		{"the east, at the end of the board", boardOf(2, 2), []impl.Cell{{0, 0}, {0, 1}}, []impl.Cell{{0, 0}, {1, 0}, {1, 1}, {0, 1}}},
		{"the first two come before all sides", boardOf(3, 3), []impl.Cell{{0, 1}, {1, 1}, {1, 2}}, []impl.Cell{{0, 1}, {0, 0}, {1, 0}, {1, 1}, {1, 2}}},
		{"the south of the first two before the north of the next", walled("#...", "....", "...."), []impl.Cell{{0, 1}, {1, 1}, {2, 1}}, []impl.Cell{{0, 1}, {0, 2}, {1, 2}, {1, 1}, {2, 1}}},
		{"the next two", walled("#..", "...", "#.."), []impl.Cell{{0, 1}, {1, 1}, {2, 1}}, []impl.Cell{{0, 1}, {1, 1}, {1, 0}, {2, 0}, {2, 1}}},
		{"the last two", walled("#.#.", "....", "#.#."), []impl.Cell{{0, 1}, {1, 1}, {2, 1}, {3, 1}}, nil},
		{"not through the line", boardOf(2, 2), []impl.Cell{{0, 0}, {0, 1}, {1, 1}}, nil},
		{"round the line", boardOf(3, 2), []impl.Cell{{0, 0}, {0, 1}, {1, 1}}, nil},
		{"beside the last two", boardOf(3, 3), []impl.Cell{{0, 0}, {0, 1}, {1, 1}}, []impl.Cell{{0, 0}, {0, 1}, {0, 2}, {1, 2}, {1, 1}}},
		{"one cell", boardOf(24, 24), []impl.Cell{{5, 5}}, nil},
		{"one row", boardOf(24, 1), []impl.Cell{{5, 0}, {6, 0}}, nil},
		{"one column", boardOf(1, 24), []impl.Cell{{0, 8}, {0, 7}}, nil},
		{"the last cells", boardOf(24, 24), []impl.Cell{{23, 23}, {23, 22}}, []impl.Cell{{23, 23}, {22, 23}, {22, 22}, {23, 22}}},
		{"the first cells", boardOf(24, 24), []impl.Cell{{0, 0}, {1, 0}}, []impl.Cell{{0, 0}, {0, 1}, {1, 1}, {1, 0}}},
	}
	for _, one := range cases {
		cells, c := impl.LongerCells(one.board, one.cells)
		if one.want == nil {
			listFails(t, one.name, cells, c, impl.ErrNotFound)
		} else {
			listIs(t, one.name, cells, c, one.want...)
		}
	}
}

func TestLongerCellErrors(t *testing.T) {
	b := smallWall()
	bad := [][]impl.Cell{
		{{1, 1}}, {{0, 1}, {1, 1}}, {{1, 0}, {1, 1}}, {{0, 0}, {1, 0}, {1, 1}, {2, 1}}, {{2, 0}, {3, 0}}, {{2, 1}, {2, 2}}, {{5, 5}, {5, 6}}, {{23, 23}}, {{0, 2}},
	}
	for _, cells := range bad {
		longer, c := impl.LongerCells(b, cells)
		listFails(t, "no free cells of the board", longer, c, impl.ErrRange)
	}
	full := fullBoard(20, 10, 200)
	longer, c := impl.LongerCells(full, []impl.Cell{{0, 0}, {1, 0}})
	listFails(t, "full", longer, c, impl.ErrRange)
	longer, c = impl.LongerCells(walled("#"), []impl.Cell{{0, 0}})
	listFails(t, "full", longer, c, impl.ErrRange)
}

// Lines of MaxLength cells are made longer, too: only those of more are not as told.
func TestLongerCellLimits(t *testing.T) {
	b := boardOf(24, 24)
	for _, count := range []int{118, 119, 120} {
		want, _ := longerByHand(b, snakeCells(count), nil)
		longer, c := impl.LongerCells(b, snakeCells(count))
		listIs(t, "up to 120 cells", longer, c, want...)
		same(t, "up to 120 cells", len(longer), count+2)
	}
	longer, c := impl.LongerCells(b, snakeCells(121))
	listFails(t, "121 cells", longer, c, impl.ErrRange)
	longer, c = impl.LongerCells(boardOf(24, 5), snakeCells(120))
	listFails(t, "a full board", longer, c, impl.ErrNotFound)
}

func TestLongerCellsByHand(t *testing.T) {
	codes := map[int64]int{}
	for _, one := range someTasks(1000) {
		cells, c := shortestByHand(one.board, one.way)
		for c == impl.OK && len(cells) <= 120 {
			want, ok := longerByHand(one.board, cells, nil)
			longer, got := impl.LongerCells(one.board, cells)
			codes[got]++
			if !ok {
				listFails(t, "by hand", longer, got, impl.ErrNotFound)
				break
			}
			listIs(t, "by hand", longer, got, want...)
			same(t, "its ends", []impl.Cell{longer[0], longer[len(longer)-1]}, []impl.Cell{one.way.From, one.way.To})
			cells = longer
		}
	}
	if codes[impl.OK] < 300 || codes[impl.ErrNotFound] < 100 {
		t.Errorf("only %v", codes)
	}
}

func TestLayWithDelay(t *testing.T) {
	b, w := boardOf(4, 4), wayOf(1, 2, west, 2, 2, east)
	cases := []struct {
		delay  int64
		cells  []impl.Cell
		delays []int
	}{
		{2, []impl.Cell{{1, 2}, {2, 2}}, []int{1, 1}},
		{3, []impl.Cell{{1, 2}, {2, 2}}, []int{2, 1}},
		{17, []impl.Cell{{1, 2}, {2, 2}}, []int{9, 8}},
		{18, []impl.Cell{{1, 2}, {2, 2}}, []int{9, 9}},
		{19, []impl.Cell{{1, 2}, {1, 1}, {2, 1}, {2, 2}}, []int{9, 8, 1, 1}},
		{36, []impl.Cell{{1, 2}, {1, 1}, {2, 1}, {2, 2}}, []int{9, 9, 9, 9}},
		{37, []impl.Cell{{1, 2}, {1, 1}, {1, 0}, {2, 0}, {2, 1}, {2, 2}}, []int{9, 9, 9, 8, 1, 1}},
		{55, []impl.Cell{{1, 2}, {1, 1}, {0, 1}, {0, 0}, {1, 0}, {2, 0}, {2, 1}, {2, 2}}, []int{9, 9, 9, 9, 9, 8, 1, 1}},
	}
	for _, one := range cases {
		laid, c := impl.LayWithDelay(b, w, one.delay)
		want, _ := piecesByHand(one.cells, west, east)
		for i := range want {
			want[i].Delay = int8(one.delays[i])
		}
		boardIs(t, "laid", laid, c, boardOf(4, 4, want...))
		carries(t, "carried", laid, w, one.delay)
	}
	none, c := impl.LayWithDelay(boardOf(4, 3), wayOf(1, 1, west, 2, 1, east), 37)
	boardFails(t, "made longer once, but not twice", none, c, impl.ErrNotFound)
	for _, delay := range []int64{0, -1, 1001, 1 << 32, least, greatest} {
		laid, c := impl.LayWithDelay(b, w, delay)
		boardFails(t, "no such delay", laid, c, impl.ErrRange)
		// This comes before what ShortestCells tells.
		laid, c = impl.LayWithDelay(b, wayOf(1, 1, east, 2, 1, east), delay)
		boardFails(t, "no such delay", laid, c, impl.ErrRange)
		laid, c = impl.LayWithDelay(walled(".#."), wayOf(0, 0, west, 2, 0, east), delay)
		boardFails(t, "no such delay", laid, c, impl.ErrRange)
	}
	for _, delay := range []int64{1, 2, 3} {
		laid, c := impl.LayWithDelay(b, wayOf(0, 0, west, 3, 0, east), delay)
		boardFails(t, "too quick for four cells", laid, c, impl.ErrNotFound)
		laid, c = impl.LayWithDelay(b, wayOf(0, 0, east, 3, 0, east), delay)
		boardFails(t, "the cell in front comes first", laid, c, impl.ErrState)
	}
	one, c := impl.LayWithDelay(b, wayOf(1, 1, west, 1, 1, east), 9)
	boardIs(t, "one cell", one, c, boardOf(4, 4, pieceOf(1, 1, impl.PcLine, 0, 9)))
	one, c = impl.LayWithDelay(b, wayOf(1, 1, west, 1, 1, east), 10)
	boardFails(t, "one cell is never made longer", one, c, impl.ErrNotFound)
}

// The cells in front of the ends of a line are kept free.
func TestCellsKeptFree(t *testing.T) {
	b := boardOf(2, 3)
	for _, one := range []struct {
		way  impl.Way
		want []impl.Cell
	}{
		{wayOf(0, 1, west, 1, 1, east), []impl.Cell{{0, 1}, {0, 0}, {1, 0}, {1, 1}}},
		{wayOf(0, 1, north, 1, 1, east), []impl.Cell{{0, 1}, {0, 2}, {1, 2}, {1, 1}}},
		{wayOf(0, 1, west, 1, 1, north), []impl.Cell{{0, 1}, {0, 2}, {1, 2}, {1, 1}}},
		{wayOf(0, 1, north, 1, 1, north), []impl.Cell{{0, 1}, {0, 2}, {1, 2}, {1, 1}}},
		{wayOf(0, 1, south, 1, 1, south), []impl.Cell{{0, 1}, {0, 0}, {1, 0}, {1, 1}}},
		{wayOf(0, 1, south, 1, 1, north), nil},
		{wayOf(0, 1, north, 1, 1, south), nil},
	} {
		laid, c := impl.LayWithDelay(b, one.way, 20)
		if one.want == nil {
			boardFails(t, "both are in front", laid, c, impl.ErrNotFound)
			continue
		}
		want, _ := piecesByHand(one.want, int(one.way.Side), int(one.way.Out))
		slow, _ := slowByHand(want, 20)
		boardIs(t, "laid", laid, c, boardOf(2, 3, slow...))
		carries(t, "carried", laid, one.way, 20)
	}
	longer, c := impl.LongerCells(b, []impl.Cell{{0, 1}, {1, 1}})
	listIs(t, "LongerCells knows of no ends", longer, c, cell(0, 1), cell(0, 0), cell(1, 0), cell(1, 1))
}

// taskDelays are delays at the limits of a line of so many cells, and some others.
func taskDelays(d *dice, count int64) []int64 {
	chance := int64(1 + d.upTo(300))
	return []int64{1, count - 1, count, count + 1, 9*count - 1, 9 * count, 9*count + 1, 9*count + 18, 9*count + 19, chance, 1000}
}

// P12: a line that is laid with a delay has just this, and carries a push to its end in it.
func TestLinesWithDelays(t *testing.T) {
	codes, made := map[int64]int{}, map[int]int{}
	d := dice(77)
	for _, one := range someTasks(1500) {
		cells, _ := shortestByHand(one.board, one.way)
		for _, delay := range taskDelays(&d, int64(len(cells))) {
			want, times, wantCode := delayedByHand(one.board, one.way, delay)
			laid, c := impl.LayWithDelay(one.board, one.way, delay)
			codes[c]++
			if wantCode != impl.OK {
				boardFails(t, "by hand", laid, c, wantCode)
				continue
			}
			made[times]++
			boardIs(t, "by hand", laid, c, want)
			same(t, "valid", impl.ValidBoard(laid), true)
			line := laid.Pieces[len(one.board.Pieces):]
			sum, _ := impl.DelayOfLine(line)
			same(t, "the delay of the line", sum, delay)
			carries(t, "carried", laid, one.way, delay)
			same(t, "longer by two each time", len(line), len(cells)+2*times)
		}
	}
	for _, c := range []int64{impl.OK, impl.ErrInvalid, impl.ErrRange, impl.ErrState, impl.ErrNotFound} {
		if codes[c] < 50 {
			t.Errorf("only %d times %s", codes[c], impl.CodeName(c))
		}
	}
	if made[0] < 100 || made[1] < 50 || made[2] < 50 || made[3] < 10 {
		t.Errorf("made longer so many times: %v", made)
	}
}

func TestLayWithDelayLimits(t *testing.T) {
	b, w := boardOf(24, 24), wayOf(0, 0, west, 1, 0, east)
	laid, c := impl.LayWithDelay(b, w, 1000)
	code(t, "the longest delay", c, impl.OK)
	same(t, "the longest delay", len(laid.Pieces), 112)
	carries(t, "the longest delay", laid, w, 1000)
	far := wayOf(0, 0, west, 22, 0, north)
	for _, delay := range []int64{121, 122, 999, 1000} {
		laid, c = impl.LayWithDelay(winding(), far, delay)
		boardFails(t, "121 cells", laid, c, impl.ErrLimit)
	}
	laid, c = impl.LayWithDelay(winding(), far, 120)
	boardFails(t, "121 cells, and too quick", laid, c, impl.ErrNotFound)
	most := wayOf(0, 0, west, 21, 0, north)
	for _, delay := range []int64{120, 121, 1000} {
		laid, c = impl.LayWithDelay(winding(), most, delay)
		code(t, "120 cells", c, impl.OK)
		carries(t, "120 cells", laid, most, delay)
	}
	// There are 195 pieces; the last row is free, and most of that before.
	full := fullBoard(24, 10, 195)
	three := wayOf(10, 9, south, 12, 9, south)
	for _, delay := range []int64{3, 27, 28, 45} {
		laid, c = impl.LayWithDelay(full, three, delay)
		code(t, "up to 200 pieces", c, impl.OK)
		carries(t, "up to 200 pieces", laid, three, delay)
		want, _, _ := delayedByHand(full, three, delay)
		boardIs(t, "up to 200 pieces", laid, c, want)
	}
	laid, c = impl.LayWithDelay(full, three, 46)
	boardFails(t, "202 pieces", laid, c, impl.ErrLimit)
	laid, c = impl.LayWithDelay(fullBoard(24, 9, 195), wayOf(3, 8, west, 8, 8, east), 55)
	boardFails(t, "no room, asked before the limit", laid, c, impl.ErrNotFound)
	laid, c = impl.LayWithDelay(fullBoard(24, 9, 195), wayOf(3, 8, west, 8, 8, east), 54)
	boardFails(t, "201 pieces", laid, c, impl.ErrLimit)
	laid, c = impl.LayWithDelay(fullBoard(24, 9, 195), wayOf(3, 8, west, 8, 8, east), 5)
	boardFails(t, "too quick, asked before the limit", laid, c, impl.ErrNotFound)
}
