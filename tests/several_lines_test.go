package tests

import (
	"slices"
	"testing"

	"loop.example/g01274/impl"
)

func TestLayAll(t *testing.T) {
	b := boardOf(4, 3)
	list := []impl.Way{wayOf(0, 0, west, 3, 0, east), wayOf(0, 1, west, 3, 1, east)}
	laid, count, c := impl.LayAll(b, list)
	one, _ := piecesByHand([]impl.Cell{{0, 0}, {1, 0}, {2, 0}, {3, 0}}, west, east)
	two, _ := piecesByHand([]impl.Cell{{0, 1}, {1, 1}, {2, 1}, {3, 1}}, west, east)
	boardIs(t, "two rows", laid, c, boardOf(4, 3, slices.Concat(one, two)...))
	same(t, "two rows", count, int64(8))
	laid, count, c = impl.LayAll(b, []impl.Way{list[1], list[0]})
	boardIs(t, "the other way round", laid, c, boardOf(4, 3, slices.Concat(two, one)...))
	same(t, "the other way round", count, int64(8))
	for _, none := range []impl.Board{b, boardOf(1, 1), fullBoard(20, 10, 200), winding()} {
		laid, count, c = impl.LayAll(none, nil)
		boardIs(t, "no ways", laid, c, none)
		same(t, "no ways", count, int64(0))
	}
	// The second line goes round the first one.
	around := []impl.Way{wayOf(1, 1, north, 1, 2, south), wayOf(0, 1, west, 2, 1, east)}
	laid, count, c = impl.LayAll(boardOf(3, 3), around)
	round, _ := piecesByHand([]impl.Cell{{0, 1}, {0, 0}, {1, 0}, {2, 0}, {2, 1}}, west, east)
	boardIs(t, "round it", laid, c, boardOf(3, 3, append([]impl.Piece{pieceOf(1, 1, impl.PcLine, 1, 1), pieceOf(1, 2, impl.PcLine, 1, 1)}, round...)...))
	same(t, "round it", count, int64(7))
}

func TestLayAllErrors(t *testing.T) {
	b := walled("...", "...", ".#.")
	good := wayOf(0, 0, west, 2, 0, east)
	cases := []struct {
		name string
		list []impl.Way
		want int64
	}{
		{"from a piece", []impl.Way{good, wayOf(1, 2, west, 0, 1, east)}, impl.ErrInvalid},
		{"on the line before", []impl.Way{good, wayOf(1, 0, north, 1, 1, south)}, impl.ErrInvalid},
		{"to the line before", []impl.Way{good, wayOf(1, 1, south, 2, 0, north)}, impl.ErrInvalid},
		{"the same way again", []impl.Way{good, good}, impl.ErrInvalid},
		{"cut off", []impl.Way{wayOf(0, 1, west, 2, 1, east), wayOf(0, 0, west, 0, 2, south)}, impl.ErrNotFound},
		{"the cell in front", []impl.Way{good, wayOf(0, 1, east, 2, 1, east)}, impl.ErrState},
		{"the first one decides, not found", []impl.Way{wayOf(0, 1, west, 2, 1, east), wayOf(0, 0, west, 0, 2, south), wayOf(-1, 0, 9, 0, 0, 0)}, impl.ErrNotFound},
		{"the first one decides, state", []impl.Way{wayOf(0, 1, east, 2, 1, east), wayOf(-1, 0, 9, 0, 0, 0)}, impl.ErrState},
		{"the first one decides, invalid", []impl.Way{wayOf(-1, 0, 9, 0, 0, 0), wayOf(0, 1, east, 2, 1, east)}, impl.ErrInvalid},
		{"too many, whatever they are", slices.Repeat([]impl.Way{wayOf(-1, 0, 9, 0, 0, 0)}, 13), impl.ErrRange},
		{"too many, all of them good", slices.Repeat([]impl.Way{good}, 13), impl.ErrRange},
		{"far too many", make([]impl.Way, 150000), impl.ErrRange},
	}
	for _, one := range cases {
		laid, count, c := impl.LayAll(b, one.list)
		boardFails(t, one.name, laid, c, one.want)
		same(t, one.name, count, int64(0))
	}
}

func TestLayAllLimits(t *testing.T) {
	var list []impl.Way
	for y := range int8(13) {
		list = append(list, wayOf(0, y, west, 15, y, east))
	}
	laid, count, c := impl.LayAll(boardOf(16, 24), list[:12])
	want, wantCount, _ := allLaidByHand(boardOf(16, 24), list[:12])
	boardIs(t, "12 ways", laid, c, want)
	same(t, "12 ways", []int64{count, wantCount}, []int64{192, 192})
	laid, count, c = impl.LayAll(boardOf(16, 24), list)
	boardFails(t, "13 ways", laid, c, impl.ErrRange)
	same(t, "13 ways", count, int64(0))
	// There are 195 pieces; the last row is free.
	full := fullBoard(24, 10, 195)
	three, two := wayOf(0, 9, west, 2, 9, east), wayOf(3, 9, west, 4, 9, east)
	laid, count, c = impl.LayAll(full, []impl.Way{three, two})
	same(t, "200 pieces", []any{len(laid.Pieces), count, c}, []any{200, int64(5), int64(impl.OK)})
	laid, count, c = impl.LayAll(full, []impl.Way{three, wayOf(3, 9, west, 5, 9, east)})
	boardFails(t, "201 pieces", laid, c, impl.ErrLimit)
	same(t, "201 pieces", count, int64(0))
	laid, _, c = impl.LayAll(full, []impl.Way{three, wayOf(3, 9, west, 5, 9, east), three})
	boardFails(t, "201 pieces before what is not valid", laid, c, impl.ErrLimit)
	laid, _, c = impl.LayAll(winding(), []impl.Way{wayOf(23, 23, south, 22, 23, south), wayOf(0, 0, west, 22, 0, north)})
	boardFails(t, "121 cells", laid, c, impl.ErrLimit)
}

// P12: several lines each carry their own push, in their own delay, whatever has been laid behind them.
func TestSeveralLinesCarryPushes(t *testing.T) {
	d := dice(91)
	codes, several := map[int64]int{}, 0
	for range 1200 {
		b := chanceGround(&d)
		var list []impl.Way
		for range d.upTo(5) {
			list = append(list, chanceWay(&d, b))
		}
		if d.upTo(3) == 0 {
			b = openGround(&d)
			list = openWays(&d, b, min(1+d.upTo(4), len(freeByHand(b))/2))
		}
		want, wantCount, wantCode := allLaidByHand(b, list)
		laid, count, c := impl.LayAll(b, list)
		codes[c]++
		if wantCode != impl.OK {
			boardFails(t, "by hand", laid, c, wantCode)
			same(t, "by hand", count, int64(0))
			continue
		}
		boardIs(t, "by hand", laid, c, want)
		same(t, "by hand", count, wantCount)
		same(t, "valid", impl.ValidBoard(laid), true)
		if len(list) > 1 {
			several++
		}
		before := b
		for _, w := range list {
			after, _ := shortestLaidByHand(before, w)
			carries(t, "its own push", laid, w, int64(len(after.Pieces)-len(before.Pieces)))
			before = after
		}
	}
	for _, c := range []int64{impl.OK, impl.ErrInvalid, impl.ErrState, impl.ErrNotFound} {
		if codes[c] < 50 {
			t.Errorf("only %d times %s", codes[c], impl.CodeName(c))
		}
	}
	if several < 100 {
		t.Errorf("only %d times several lines", several)
	}
}

// checkBest fails the test if BestOrder does not tell what all orders tell; it returns how many orders are best.
func checkBest(t *testing.T, b impl.Board, list []impl.Way) int {
	t.Helper()
	want, fewest, times := bestByHand(b, list)
	order, count, c := impl.BestOrder(b, list)
	if times == 0 {
		listFails(t, "no order", order, c, impl.ErrNotFound)
		same(t, "no order", count, int64(0))
		return 0
	}
	listIs(t, "the best order", order, c, want...)
	same(t, "the best order", count, fewest)
	return times
}

func TestBestOrder(t *testing.T) {
	// Laid behind the other one, the line across needs 11 cells instead of 5, and the line down 9 instead of 5.
	large, across, down := boardOf(7, 7), wayOf(1, 3, west, 5, 3, east), wayOf(2, 1, north, 2, 5, south)
	order, count, c := impl.BestOrder(large, []impl.Way{across, down})
	listIs(t, "as they are", order, c, 0, 1)
	same(t, "as they are", count, int64(14))
	order, count, c = impl.BestOrder(large, []impl.Way{down, across})
	listIs(t, "the other way round", order, c, 1, 0)
	same(t, "the other way round", count, int64(14))
	_, count, c = impl.LayAll(large, []impl.Way{down, across})
	same(t, "not the best one", []int64{count, c}, []int64{16, impl.OK})
	b := boardOf(5, 5)
	order, count, c = impl.BestOrder(b, []impl.Way{wayOf(0, 2, west, 4, 2, east)})
	listIs(t, "one way", order, c, 0)
	same(t, "one way", count, int64(5))
	var rows []impl.Way
	for y := range int8(5) {
		rows = append(rows, wayOf(0, y, west, 4, y, east))
	}
	order, count, c = impl.BestOrder(b, rows)
	listIs(t, "five rows, in all orders the same", order, c, 0, 1, 2, 3, 4)
	same(t, "five rows", count, int64(25))
	narrow := walled(".....", "##.##", "##.##")
	order, count, c = impl.BestOrder(narrow, []impl.Way{wayOf(0, 0, west, 1, 0, east), wayOf(2, 2, south, 2, 0, north), wayOf(3, 0, west, 4, 0, east)})
	listIs(t, "none is in the way", order, c, 0, 1, 2)
	same(t, "none is in the way", count, int64(7))
}

// Of two lines one has to be laid first: behind the other one it cannot be laid.
func TestBestOrderOfCrossingLines(t *testing.T) {
	b := boardOf(5, 3)
	across, middle := wayOf(0, 1, west, 4, 1, east), wayOf(2, 1, north, 2, 2, south)
	first, count, c := impl.BestOrder(b, []impl.Way{across, middle})
	listIs(t, "the second one first", first, c, 1, 0)
	same(t, "the line across goes round", count, int64(9))
	first, count, c = impl.BestOrder(b, []impl.Way{middle, across})
	listIs(t, "the first one first", first, c, 0, 1)
	same(t, "the line across goes round", count, int64(9))
	// Each of two lines cuts the other one off.
	plus := walled("#.#", "...", "#.#")
	order, count, c := impl.BestOrder(plus, []impl.Way{wayOf(0, 1, west, 2, 1, east), wayOf(1, 0, north, 1, 2, south)})
	listFails(t, "none", order, c, impl.ErrNotFound)
	same(t, "none", count, int64(0))
	order, _, c = impl.BestOrder(plus, []impl.Way{wayOf(0, 1, east, 2, 1, east)})
	listFails(t, "the cell in front", order, c, impl.ErrNotFound)
	order, _, c = impl.BestOrder(walled(".#."), []impl.Way{wayOf(0, 0, west, 2, 0, east)})
	listFails(t, "not reached", order, c, impl.ErrNotFound)
	order, _, c = impl.BestOrder(fullBoard(24, 10, 200), []impl.Way{wayOf(0, 9, west, 0, 9, east)})
	listFails(t, "too many pieces", order, c, impl.ErrNotFound)
	again := wayOf(0, 1, west, 2, 1, east)
	order, _, c = impl.BestOrder(boardOf(3, 3), []impl.Way{again, again})
	listFails(t, "the same way twice", order, c, impl.ErrNotFound)
}

// openGround is a board with few pieces.
func openGround(d *dice) impl.Board {
	b := boardOf(int8(3+d.upTo(6)), int8(3+d.upTo(6)))
	for range d.upTo(5) {
		p := pieceOf(int8(d.upTo(int(b.Wide))), int8(d.upTo(int(b.High))), int8(d.upTo(6)), int8(d.upTo(4)), int8(1+d.upTo(9)))
		if indexIn(b, p.At) < 0 {
			b.Pieces = append(b.Pieces, p)
		}
	}
	return b
}

// edgeOf is the side of a cell on which the end of the board is nearest.
func edgeOf(b impl.Board, c impl.Cell) int8 {
	far := []int8{c[1], b.Wide - 1 - c[0], b.High - 1 - c[1], c[0]}
	return int8(slices.Index(far, slices.Min(far)))
}

// openWays are so many ways that come from the ends of the board, and lead there; all their cells are different ones.
func openWays(d *dice, b impl.Board, count int) []impl.Way {
	free := freeByHand(b)
	var list []impl.Way
	for range count {
		w := impl.Way{}
		for _, c := range []*impl.Cell{&w.From, &w.To} {
			at := d.upTo(len(free))
			*c = free[at]
			free = slices.Delete(free, at, at+1)
		}
		w.Side, w.Out = edgeOf(b, w.From), edgeOf(b, w.To)
		list = append(list, w)
	}
	return list
}

func TestBestOrderByHand(t *testing.T) {
	d := dice(17)
	found := map[string]int{}
	for range 400 {
		b := openGround(&d)
		list := openWays(&d, b, min(1+d.upTo(4), len(freeByHand(b))/2))
		switch times := checkBest(t, b, list); times {
		case 0:
			found["none"]++
		case 1:
			found["one"]++
		default:
			found["several"]++
		}
		if order, _, c := impl.BestOrder(b, list); c == impl.OK && order[0] != 0 {
			found["not the first one first"]++
		}
	}
	for _, name := range []string{"none", "one", "several", "not the first one first"} {
		if found[name] < 20 {
			t.Errorf("only %d times %s", found[name], name)
		}
	}
	for range 300 {
		b := chanceGround(&d)
		if w := chanceWay(&d, b); wayIsValid(b, w) {
			checkBest(t, b, []impl.Way{w})
		}
	}
}

// Five ways across each other.
func TestBestOrderOfFive(t *testing.T) {
	d := dice(4)
	found := map[bool]int{}
	for range 20 {
		b := boardOf(11, 11)
		found[checkBest(t, b, openWays(&d, b, 5)) > 0]++
	}
	if found[true] < 2 || found[false] < 2 {
		t.Errorf("only %v", found)
	}
}

func TestBestOrderErrors(t *testing.T) {
	b := smallWall()
	good := wayOf(0, 0, west, 2, 0, east)
	for _, list := range [][]impl.Way{nil, {}, slices.Repeat([]impl.Way{good}, 6), slices.Repeat([]impl.Way{{Side: 9}}, 6), make([]impl.Way, 150000)} {
		order, count, c := impl.BestOrder(b, list)
		listFails(t, "not 1 to 5", order, c, impl.ErrRange)
		same(t, "not 1 to 5", count, int64(0))
	}
	for name, w := range badWays() {
		// Without the bad one there would be no order, but this is asked later.
		for _, list := range [][]impl.Way{{w}, {good, w}, {good, good, w}, {wayOf(0, 0, east, 2, 0, east), w}, {good, good, good, good, w}} {
			order, count, c := impl.BestOrder(b, list)
			listFails(t, name, order, c, impl.ErrInvalid)
			same(t, name, count, int64(0))
		}
	}
}

func TestCarriesPush(t *testing.T) {
	row := boardOf(4, 2,
		pieceOf(0, 0, impl.PcLine, 0, 2), pieceOf(1, 0, impl.PcOneWay, 0, 3), pieceOf(2, 0, impl.PcFork, 0, 4), pieceOf(3, 1, impl.PcGate, 0, 5), pieceOf(2, 1, impl.PcCorner, 2, 6))
	cases := []struct {
		name string
		way  impl.Way
		want int64
	}{
		{"one piece", wayOf(0, 0, west, 0, 0, east), 2},
		{"from the other side", wayOf(0, 0, east, 0, 0, west), 2},
		{"two pieces", wayOf(0, 0, west, 1, 0, east), 5},
		{"to the fork, north", wayOf(0, 0, west, 2, 0, north), 9},
		{"to the fork, south", wayOf(0, 0, west, 2, 0, south), 9},
		{"from the one way", wayOf(1, 0, west, 2, 0, south), 7},
		{"round the corner", wayOf(0, 0, west, 2, 1, east), 15},
		{"through the gate", wayOf(0, 0, west, 3, 1, east), 20},
		{"back through it", wayOf(3, 1, east, 2, 0, west), 15},
		{"back to its north", wayOf(3, 1, east, 2, 0, north), 15},
		{"it does not hit back", wayOf(0, 0, west, 2, 0, west), -1},
		{"a line does not hit to the south", wayOf(0, 0, west, 0, 0, south), -1},
		{"it does not fall from there", wayOf(0, 0, north, 0, 0, east), -1},
		{"through one way only", wayOf(2, 0, north, 1, 0, west), -1},
		{"not pushed from there", wayOf(1, 0, east, 2, 0, south), -1},
		{"a gate that falls, and hits none", wayOf(3, 1, north, 3, 1, east), -1},
		{"not to the line before", wayOf(1, 0, west, 0, 0, west), -1},
	}
	for _, one := range cases {
		if one.want < 0 {
			tick, c := impl.CarriesPush(row, one.way)
			numberFails(t, one.name, tick, c, impl.ErrNotFound)
		} else {
			carries(t, one.name, row, one.way, one.want)
		}
	}
	slowest := boardOf(20, 10)
	for i, c := range snakeOf(20, 200) {
		p, _ := piecesByHand([]impl.Cell{c}, west, east)
		if x := i % 20; x == 0 || x == 19 {
			continue
		}
		p[0].Delay = 9
		slowest.Pieces = append(slowest.Pieces, p...)
	}
	carries(t, "as slow as can be", slowest, wayOf(1, 0, west, 18, 0, east), 18*9)
}

// snakeOf are so many cells of a board that is so wide, row by row.
func snakeOf(wide, count int) []impl.Cell {
	var cells []impl.Cell
	for i := range count {
		cells = append(cells, cell(int8(i%wide), int8(i/wide)))
	}
	return cells
}

func TestCarriesPushErrors(t *testing.T) {
	b := boardOf(3, 1, pieceOf(0, 0, impl.PcLine, 0, 1), pieceOf(1, 0, impl.PcLine, 0, 1))
	ways := []impl.Way{
		wayOf(2, 0, west, 1, 0, east), wayOf(0, 0, west, 2, 0, east), wayOf(-1, 0, west, 1, 0, east), wayOf(0, 0, west, 0, 1, east),
		wayOf(127, -128, west, 1, 0, east), wayOf(0, 0, west, -128, 127, east),
		wayOf(0, 0, -1, 1, 0, east), wayOf(0, 0, 4, 1, 0, east), wayOf(0, 0, west, 1, 0, -1), wayOf(0, 0, west, 1, 0, 4), wayOf(0, 0, 127, 1, 0, -128),
		// It would not fall, or not hit there, but this is asked later.
		wayOf(0, 0, north, 1, 0, 4), wayOf(0, 0, 4, 1, 0, north), wayOf(0, 0, north, 2, 0, east), wayOf(2, 0, west, 1, 0, north),
	}
	for _, w := range ways {
		tick, c := impl.CarriesPush(b, w)
		numberFails(t, "no piece, or no side", tick, c, impl.ErrRange)
	}
	// These are no valid ways: there are pieces, and both sides of a cell are the same.
	tick, c := impl.CarriesPush(b, wayOf(0, 0, west, 0, 0, west))
	numberFails(t, "there and back", tick, c, impl.ErrNotFound)
	carries(t, "on pieces", b, wayOf(0, 0, west, 1, 0, east), 2)
}

func TestCarriesPushByHand(t *testing.T) {
	codes := map[bool]int{}
	d := dice(8)
	for range 1500 {
		b := chanceGame(&d).board
		if len(b.Pieces) == 0 {
			continue
		}
		w := impl.Way{From: b.Pieces[d.upTo(len(b.Pieces))].At, Side: int8(d.upTo(4)), Out: int8(d.upTo(4))}
		w.To = w.From
		for range d.upTo(4) {
			if next := besideByHand(w.To, d.upTo(4)); indexIn(b, next) >= 0 {
				w.To = next
			}
		}
		want := carriedByHand(b, w)
		codes[want >= 0]++
		if want >= 0 {
			carries(t, "by hand", b, w, want)
			continue
		}
		tick, c := impl.CarriesPush(b, w)
		numberFails(t, "by hand", tick, c, impl.ErrNotFound)
	}
	if codes[true] < 100 || codes[false] < 100 {
		t.Errorf("only %v", codes)
	}
}
