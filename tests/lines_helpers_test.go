package tests

import (
	"slices"
	"strings"
	"testing"

	"loop.example/g01274/impl"
)

func wayOf(x1, y1, side, x2, y2, out int8) impl.Way {
	return impl.Way{From: cell(x1, y1), Side: side, To: cell(x2, y2), Out: out}
}

// walled is a board with a piece for each "#" in its rows; pieces are of all kinds, turns and delays.
func walled(rows ...string) impl.Board {
	b := boardOf(int8(len(rows[0])), int8(len(rows)))
	for y, row := range rows {
		for x, c := range row {
			if c == '#' {
				i := len(b.Pieces)
				b.Pieces = append(b.Pieces, pieceOf(int8(x), int8(y), int8(i%6), int8(i/2%4), int8(1+i%9)))
			}
		}
	}
	return b
}

// winding is a board of 75 pieces, on which the way from 0, 0 to 21, 0 goes down and up again, and has 120 cells; that to 22, 0 has one more.
func winding() impl.Board {
	open, rows := strings.Repeat(".", 24), []string{}
	for y := range 24 {
		row := []byte(open)
		for i, x := range []int{2, 10, 19} {
			// The walls are open in the south, in the north, and in the south.
			if y != []int{23, 0, 23}[i] {
				row[x] = '#'
			}
		}
		switch y {
		case 4:
			row[21], row[22], row[23] = '#', '#', '#'
		case 8:
			row[20], row[21], row[22] = '#', '#', '#'
		}
		rows = append(rows, string(row))
	}
	return walled(rows...)
}

// chanceGround is a board with a few walls.
func chanceGround(d *dice) impl.Board {
	b := boardOf(int8(1+d.upTo(7)), int8(1+d.upTo(7)))
	walls := d.upTo(5)
	for x := range b.Wide {
		for y := range b.High {
			if d.upTo(10) < walls {
				p := pieceOf(x, y, int8(d.upTo(6)), int8(d.upTo(4)), int8(1+d.upTo(9)))
				b.Pieces = slices.Insert(b.Pieces, d.upTo(len(b.Pieces)+1), p)
			}
		}
	}
	return b
}

// chanceWay is a way whose cells are on the board, and mostly free.
func chanceWay(d *dice, b impl.Board) impl.Way {
	free := freeByHand(b)
	if len(free) == 0 || d.upTo(12) == 0 {
		return wayOf(int8(d.upTo(int(b.Wide))), int8(d.upTo(int(b.High))), int8(d.upTo(4)), 0, 0, int8(d.upTo(4)))
	}
	return impl.Way{From: free[d.upTo(len(free))], Side: int8(d.upTo(4)), To: free[d.upTo(len(free))], Out: int8(d.upTo(4))}
}

// task is a board with a way on it.
type task struct {
	board impl.Board
	way   impl.Way
}

// someTasks are valid boards with ways that are mostly valid.
func someTasks(chance int) []task {
	tasks := []task{
		{boardOf(3, 2), wayOf(0, 0, west, 2, 1, east)},
		{boardOf(1, 1), wayOf(0, 0, west, 0, 0, east)},
		{boardOf(1, 1), wayOf(0, 0, south, 0, 0, south)},
		{boardOf(24, 24), wayOf(0, 0, north, 23, 23, south)},
		{boardOf(24, 24), wayOf(23, 0, west, 0, 23, west)},
		{boardOf(24, 24), wayOf(7, 20, east, 19, 2, south)},
		{boardOf(24, 1), wayOf(23, 0, east, 0, 0, west)},
		{boardOf(1, 24), wayOf(0, 5, north, 0, 9, east)},
		{winding(), wayOf(0, 0, west, 21, 0, north)},
		{winding(), wayOf(0, 0, west, 22, 0, north)},
		{walled("..#..", "..#..", "....."), wayOf(1, 0, north, 3, 0, north)},
		{walled("..#..", "..#..", "..#.."), wayOf(1, 0, north, 3, 0, north)},
		{fullBoard(20, 10, 200), wayOf(0, 0, west, 1, 0, east)},
		{fullBoard(24, 24, 200), wayOf(8, 8, west, 9, 9, east)},
	}
	d := dice(31)
	for range chance {
		b := chanceGround(&d)
		tasks = append(tasks, task{b, chanceWay(&d, b)})
	}
	return tasks
}

// badWays are ways that are not valid for the board walled("...", ".#."), each for one reason.
func badWays() map[string]impl.Way {
	return map[string]impl.Way{
		"from a piece":     wayOf(1, 1, west, 0, 0, east),
		"to a piece":       wayOf(0, 0, west, 1, 1, east),
		"from the east":    wayOf(3, 0, west, 0, 0, east),
		"from the south":   wayOf(0, 2, west, 0, 0, east),
		"from the west":    wayOf(-1, 0, west, 0, 0, east),
		"from the north":   wayOf(0, -1, west, 0, 0, east),
		"to the east":      wayOf(0, 0, west, 3, 1, east),
		"to the south":     wayOf(0, 0, west, 2, 2, east),
		"to the west":      wayOf(0, 0, west, -1, 1, east),
		"to the north":     wayOf(0, 0, west, 0, -1, east),
		"far away":         wayOf(-128, 127, west, 127, -128, east),
		"side below":       wayOf(0, 0, -1, 2, 1, east),
		"side above":       wayOf(0, 0, 4, 2, 1, east),
		"least side":       wayOf(0, 0, -128, 2, 1, east),
		"out below":        wayOf(0, 0, west, 2, 1, -1),
		"out above":        wayOf(0, 0, west, 2, 1, 4),
		"greatest out":     wayOf(0, 0, west, 2, 1, 127),
		"there and back":   wayOf(0, 0, west, 0, 0, west),
		"at the same cell": wayOf(2, 1, south, 2, 1, south),
	}
}

// stepsByHand tells how far north, east, south and west of a cell are.
var stepsByHand = [4][2]int{{0, -1}, {1, 0}, {0, 1}, {-1, 0}}

func besideByHand(c impl.Cell, side int) impl.Cell {
	return cell(c[0]+int8(stepsByHand[side][0]), c[1]+int8(stepsByHand[side][1]))
}

// freeByHand are the free cells of a board, row by row.
func freeByHand(b impl.Board) []impl.Cell {
	var free []impl.Cell
	for y := range b.High {
		for x := range b.Wide {
			if indexIn(b, cell(x, y)) < 0 {
				free = append(free, cell(x, y))
			}
		}
	}
	return free
}

// distancesByHand makes distances less as long as there are shorter steps; cells that cannot be reached have none.
func distancesByHand(b impl.Board, c impl.Cell) map[impl.Cell]int64 {
	distances := map[impl.Cell]int64{c: 0}
	free := freeByHand(b)
	for changed := true; changed; {
		changed = false
		for _, at := range free {
			for side := range 4 {
				near, known := distances[besideByHand(at, side)]
				far, before := distances[at]
				if known && (!before || near+1 < far) {
					distances[at] = near + 1
					changed = true
				}
			}
		}
	}
	return distances
}

// wayIsValid tells whether a way is valid for a valid board.
func wayIsValid(b impl.Board, w impl.Way) bool {
	free := freeByHand(b)
	if !slices.Contains(free, w.From) || !slices.Contains(free, w.To) || w.Side < 0 || w.Side > 3 || w.Out < 0 || w.Out > 3 {
		return false
	}
	return w.From != w.To || w.Side != w.Out
}

// shortestByHand tells the cells of a shortest line, or the code.
func shortestByHand(b impl.Board, w impl.Way) ([]impl.Cell, int64) {
	if !wayIsValid(b, w) {
		return nil, impl.ErrInvalid
	}
	distances := distancesByHand(b, w.From)
	left, reached := distances[w.To]
	if !reached {
		return nil, impl.ErrNotFound
	}
	cells := []impl.Cell{w.To}
	for ; left > 0; left-- {
		for side := range 4 {
			next := besideByHand(cells[0], side)
			if distance, known := distances[next]; known && distance == left-1 {
				cells = slices.Insert(cells, 0, next)
				break
			}
		}
	}
	if slices.Contains(cells, besideByHand(w.From, int(w.Side))) || slices.Contains(cells, besideByHand(w.To, int(w.Out))) {
		return nil, impl.ErrState
	}
	return cells, impl.OK
}

// Kinds and turns of pieces that lead from a side to another one, by the letters of both.
var (
	kindsByHand = map[string]int8{"NS": impl.PcLine, "EW": impl.PcLine, "SW": impl.PcCorner, "NW": impl.PcCorner, "EN": impl.PcCorner, "ES": impl.PcCorner}
	turnsByHand = map[string]int8{"NS": 1, "EW": 0, "SW": 0, "NW": 1, "EN": 2, "ES": 3}
)

// piecesByHand tells the pieces of a line through cells that follow each other; false if one would have to hit back.
func piecesByHand(cells []impl.Cell, side, out int) ([]impl.Piece, bool) {
	var pieces []impl.Piece
	for i, c := range cells {
		sides := []int{side, out}
		for s := range 4 {
			if i > 0 && besideByHand(c, s) == cells[i-1] {
				sides[0] = s
			}
			if i+1 < len(cells) && besideByHand(c, s) == cells[i+1] {
				sides[1] = s
			}
		}
		letters := []string{"NESW"[sides[0] : sides[0]+1], "NESW"[sides[1] : sides[1]+1]}
		slices.Sort(letters)
		both := strings.Join(letters, "")
		kind, known := kindsByHand[both]
		if !known {
			return nil, false
		}
		pieces = append(pieces, pieceOf(c[0], c[1], kind, turnsByHand[both], 1))
	}
	return pieces, true
}

// longerByHand tells cells that are longer by two; false if there are none.
func longerByHand(b impl.Board, cells, not []impl.Cell) ([]impl.Cell, bool) {
	free := freeByHand(b)
	fits := func(c impl.Cell) bool {
		return slices.Contains(free, c) && !slices.Contains(cells, c) && !slices.Contains(not, c)
	}
	for i := range len(cells) - 1 {
		for side := range 4 {
			one, two := besideByHand(cells[i], side), besideByHand(cells[i+1], side)
			if fits(one) && fits(two) {
				return slices.Insert(slices.Clone(cells), i+1, one, two), true
			}
		}
	}
	return nil, false
}

// slowByHand makes one piece after the other slower, tick by tick.
func slowByHand(pieces []impl.Piece, delay int) ([]impl.Piece, bool) {
	if delay < len(pieces) || delay > 9*len(pieces) {
		return nil, false
	}
	slow := slices.Clone(pieces)
	for i := range slow {
		slow[i].Delay = 1
	}
	for i, left := 0, delay-len(slow); left > 0; left-- {
		if slow[i].Delay == 9 {
			i++
		}
		slow[i].Delay++
	}
	return slow, true
}

// laidByHand puts the pieces of a line through cells on the board, whose delay is the one that is told.
func laidByHand(b impl.Board, w impl.Way, cells []impl.Cell, delay int) (impl.Board, int64) {
	if len(cells) > 120 || len(b.Pieces)+len(cells) > 200 {
		return impl.Board{}, impl.ErrLimit
	}
	pieces, _ := piecesByHand(cells, int(w.Side), int(w.Out))
	slow, _ := slowByHand(pieces, delay)
	b.Pieces = slices.Concat(b.Pieces, slow)
	return b, impl.OK
}

func shortestLaidByHand(b impl.Board, w impl.Way) (impl.Board, int64) {
	cells, c := shortestByHand(b, w)
	if c != impl.OK {
		return impl.Board{}, c
	}
	return laidByHand(b, w, cells, len(cells))
}

// delayedByHand lays a line with a delay; it tells as well how many times it has been made longer.
func delayedByHand(b impl.Board, w impl.Way, delay int64) (impl.Board, int, int64) {
	cells, c := shortestByHand(b, w)
	switch {
	case c == impl.ErrInvalid:
		return impl.Board{}, 0, c
	case delay < 1 || delay > 1000:
		return impl.Board{}, 0, impl.ErrRange
	case c != impl.OK:
		return impl.Board{}, 0, c
	case delay < int64(len(cells)):
		return impl.Board{}, 0, impl.ErrNotFound
	}
	not := []impl.Cell{besideByHand(w.From, int(w.Side)), besideByHand(w.To, int(w.Out))}
	times := 0
	for ; int64(9*len(cells)) < delay; times++ {
		longer, ok := longerByHand(b, cells, not)
		if !ok {
			return impl.Board{}, times, impl.ErrNotFound
		}
		cells = longer
	}
	laid, c := laidByHand(b, w, cells, int(delay))
	return laid, times, c
}

// allLaidByHand lays lines for several ways.
func allLaidByHand(b impl.Board, list []impl.Way) (impl.Board, int64, int64) {
	laid := b
	for _, w := range list {
		next, c := shortestLaidByHand(laid, w)
		if c != impl.OK {
			return impl.Board{}, 0, c
		}
		laid = next
	}
	return laid, int64(len(laid.Pieces) - len(b.Pieces)), impl.OK
}

// isOrder tells whether numbers are all indices of so many, each of them once.
func isOrder(numbers []int64) bool {
	sorted := slices.Sorted(slices.Values(numbers))
	for i, n := range sorted {
		if n != int64(i) {
			return false
		}
	}
	return true
}

// ordersByHand are all orders of so many, in ascending order: counting goes through all lists of digits.
func ordersByHand(count int) [][]int64 {
	var orders [][]int64
	all := 1
	for range count {
		all *= count
	}
	for n := range all {
		digits := make([]int64, count)
		for i := count - 1; i >= 0; i-- {
			digits[i] = int64(n % count)
			n /= count
		}
		if isOrder(digits) {
			orders = append(orders, digits)
		}
	}
	return orders
}

// bestByHand tells the best order of ways, how many pieces these have, and how many orders have as few.
func bestByHand(b impl.Board, list []impl.Way) ([]int64, int64, int) {
	var best []int64
	fewest, times := int64(1000), 0
	for _, order := range ordersByHand(len(list)) {
		var ways []impl.Way
		for _, i := range order {
			ways = append(ways, list[i])
		}
		_, count, c := allLaidByHand(b, ways)
		switch {
		case c != impl.OK || count > fewest:
		case count == fewest:
			times++
		default:
			best, fewest, times = order, count, 1
		}
	}
	return best, fewest, times
}

// carriedByHand tells when a push comes to the end of a way, on a valid board; -1 if it does not.
func carriedByHand(b impl.Board, w impl.Way) int64 {
	last := b.Pieces[indexIn(b, w.To)]
	fall := playedOut(gameOf{b, []impl.Push{{At: w.From, Side: w.Side}}})[indexIn(b, w.To)]
	if fall == stay {
		return -1
	}
	if hits, _ := impl.HitsFrom(last, int64(fall.From)); !hits[w.Out] {
		return -1
	}
	return fall.Tick + int64(last.Delay)
}

// carries fails the test if a push of a way does not come to its end at a tick.
func carries(t *testing.T, name string, b impl.Board, w impl.Way, want int64) {
	t.Helper()
	tick, c := impl.CarriesPush(b, w)
	same(t, name, []int64{tick, c}, []int64{want, impl.OK})
}
