package tests

import (
	"slices"
	"strings"
	"sync"
	"testing"

	"loop.example/g01274/impl"
)

// lineArgs are arguments for all functions of chapter 5.
type lineArgs struct {
	board  impl.Board
	way    impl.Way
	cells  []impl.Cell
	pieces []impl.Piece
	list   []impl.Way
	number int64
	text   string
}

// rawChapter5 calls every function of the chapter with a code, and returns the results of each call, the code at last.
func rawChapter5(a lineArgs) [][]any {
	var all [][]any
	two := func(result any, code int64) { all = append(all, []any{result, code}) }
	two(impl.FreeCells(a.board))
	two(impl.DistancesFrom(a.board, a.way.From))
	two(impl.ShortestCells(a.board, a.way))
	two(impl.LinePieces(a.cells, int64(a.way.Side), int64(a.way.Out)))
	two(impl.LinePieces(a.cells, a.number, int64(a.way.Out)))
	two(impl.LayLine(a.board, a.way))
	two(impl.DelayOfLine(a.pieces))
	two(impl.SlowLine(a.pieces, a.number))
	two(impl.LayWithDelay(a.board, a.way, a.number))
	two(impl.LongerCells(a.board, a.cells))
	laid, count, code := impl.LayAll(a.board, a.list)
	all = append(all, []any{laid, count, code})
	order, count, code := impl.BestOrder(a.board, a.list)
	all = append(all, []any{order, count, code})
	two(impl.CarriesPush(a.board, a.way))
	two(impl.CarriesPush(laid, a.way))
	two(impl.CornersIn(a.pieces))
	two(impl.ReadWay(impl.WayText(a.way)))
	two(impl.ReadWay(a.text))
	return all
}

// evenBoard makes a nil list of pieces empty.
func evenBoard(b impl.Board) impl.Board {
	b.Pieces = append([]impl.Piece{}, b.Pieces...)
	return b
}

// chapter5 calls every function of the chapter, nil lists being made empty.
func chapter5(a lineArgs) [][]any {
	all := evened(rawChapter5(a))
	return append(all, []any{impl.ValidWay(a.board, a.way), impl.WayText(a.way), int64(impl.OK)})
}

var someWayTexts = []string{"0 0 west 2 1 east", "", "0 0 west 2 1", "23 23 north 0 0 north", "a"}

// variedArgs are valid ones and invalid ones.
func variedArgs() []lineArgs {
	var all []lineArgs
	d := dice(101)
	tasks := someTasks(120)
	for _, w := range badWays() {
		tasks = append(tasks, task{smallWall(), w})
	}
	for _, b := range badBoards() {
		tasks = append(tasks, task{b, wayOf(1, 1, west, 0, 1, east)})
	}
	numbers := []int64{-1, 0, 1, 2, 3, 9, 19, 30, 60, 1000, 1001, 100001}
	for i, one := range tasks {
		a := lineArgs{board: one.board, way: one.way, number: numbers[i%len(numbers)], text: someWayTexts[i%len(someWayTexts)]}
		a.cells, _ = impl.ShortestCells(one.board, one.way)
		a.pieces, _ = impl.LinePieces(a.cells, int64(one.way.Side), int64(one.way.Out))
		switch i % 6 {
		case 0:
			a.list = append(a.list, one.way)
		case 1:
			a.pieces = append(a.pieces, pieceOf(0, 0, 0, 0, 0))
		case 2:
			a.board, _ = impl.LayLine(one.board, one.way)
		case 3:
			a.board = openGround(&d)
			a.list = openWays(&d, a.board, 2)
			a.way = a.list[0]
		case 4:
			a.cells = append(a.cells, cell(0, 0))
		}
		all = append(all, a)
	}
	return all
}

// roomyArgs are the arguments with room behind their lists, and the whole of these.
func roomyArgs(a lineArgs) (lineArgs, []any) {
	board, pieces := roomy(a.board)
	cells, allCells := withRoom(a.cells, cell(77, 77))
	line, allLine := withRoom(a.pieces, pieceOf(77, 77, 77, 77, 77))
	list, allWays := withRoom(a.list, wayOf(77, 77, 77, 77, 77, 77))
	a.board, a.cells, a.pieces, a.list = board, cells, line, list
	return a, []any{pieces, allCells, allLine, allWays}
}

// cloned copies lists.
func cloned(lists []any) []any {
	return []any{slices.Clone(lists[0].([]impl.Piece)), slices.Clone(lists[1].([]impl.Cell)), slices.Clone(lists[2].([]impl.Piece)), slices.Clone(lists[3].([]impl.Way))}
}

// P1: no function modifies an argument, nor the unused capacity of one, and equal arguments give equal results.
func TestChapter5Purity(t *testing.T) {
	for _, a := range variedArgs() {
		used, lists := roomyArgs(a)
		kept := cloned(lists)
		one := chapter5(used)
		same(t, "arguments", lists, kept)
		same(t, "equal arguments", chapter5(a), one)
		same(t, "again", chapter5(used), one)
	}
}

// overwriteLine fills a list of cells or pieces, or that of a board, with other values.
func overwriteLine(result any) {
	switch list := result.(type) {
	case []impl.Cell:
		all := list[:cap(list)]
		for i := range all {
			all[i] = cell(77, 77)
		}
	case []impl.Piece:
		clear(list[:cap(list)])
	case impl.Board:
		clear(list.Pieces[:cap(list.Pieces)])
	default:
		overwrite(result)
	}
}

// P1: results share no memory with arguments, nor with what other calls return.
func TestChapter5Sharing(t *testing.T) {
	for _, a := range variedArgs() {
		used, lists := roomyArgs(a)
		kept := cloned(lists)
		before := chapter5(used)
		for range 2 {
			for _, results := range rawChapter5(used) {
				for _, result := range results {
					overwriteLine(result)
					same(t, "the arguments", lists, kept)
				}
			}
		}
		same(t, "nothing is kept", chapter5(used), before)
	}
}

// What is laid is new, also if there is nothing to lay, and pieces that are as slow as told are, too.
func TestLaidIsNew(t *testing.T) {
	b := walled("..", "##")
	laid, _, _ := impl.LayAll(b, nil)
	overwriteLine(laid)
	boardIs(t, "the board", b, impl.OK, walled("..", "##"))
	line := []impl.Piece{pieceOf(0, 0, impl.PcLine, 0, 1)}
	slow, _ := impl.SlowLine(line, 1)
	overwriteLine(slow)
	same(t, "the line", line, []impl.Piece{pieceOf(0, 0, impl.PcLine, 0, 1)})
	one, _ := impl.LayLine(b, wayOf(0, 0, west, 1, 0, east))
	two, _ := impl.LayLine(b, wayOf(0, 0, west, 0, 0, north))
	overwriteLine(two)
	boardIs(t, "the board", b, impl.OK, walled("..", "##"))
	same(t, "another board", one.Pieces[3], pieceOf(1, 0, impl.PcLine, 0, 1))
}

// P1: nil lists do the same as empty ones.
func TestChapter5NilAndEmpty(t *testing.T) {
	for _, b := range []impl.Board{{}, boardOf(1, 1), boardOf(3, 2), rowOf(0, 0)} {
		for number := int64(-1); number <= 2; number++ {
			w := wayOf(0, 0, west, 0, 0, east)
			none := lineArgs{board: b, way: w, number: number}
			empty := lineArgs{board: evenBoard(b), way: w, number: number, cells: []impl.Cell{}, pieces: []impl.Piece{}, list: []impl.Way{}}
			same(t, "nil and empty", chapter5(none), chapter5(empty))
		}
	}
}

// P1: every function returns for all arguments, however large or wrong they are.
func TestChapter5Totality(t *testing.T) {
	boards := []impl.Board{
		{}, boardOf(-128, 127), boardOf(24, 24), boardOf(1, 1), winding(), fullBoard(20, 10, 200), fullBoard(24, 24, 200), fullBoard(24, 24, 201),
		{Wide: 24, High: 24, Pieces: make([]impl.Piece, 200000)}, boardOf(2, 2, pieceOf(-128, -128, -128, -128, -128)), rowOf(0, 4, 5),
	}
	var ways []impl.Way
	for _, w := range badWays() {
		ways = append(ways, w)
	}
	ways = append(ways, wayOf(0, 0, west, 23, 23, east), wayOf(-128, -128, -128, -128, -128, -128), wayOf(127, 127, 127, 127, 127, 127), wayOf(23, 23, south, 0, 23, west), wayOf(0, 0, west, 22, 0, north))
	cells := [][]impl.Cell{nil, make([]impl.Cell, 400000), snakeCells(120), snakeCells(576), {{-128, 127}}, {{127, 0}, {-128, 0}}, {{23, 23}, {24, 23}}}
	pieces := [][]impl.Piece{nil, make([]impl.Piece, 200000), slices.Repeat([]impl.Piece{pieceOf(0, 0, 0, 0, 1)}, 150000), straightLine(120), {pieceOf(127, 127, 127, 127, 127)}}
	lists := [][]impl.Way{nil, make([]impl.Way, 100000), ways[:4], slices.Repeat(ways[len(ways)-2:], 6), {wayOf(0, 0, west, 23, 23, east), wayOf(23, 0, north, 0, 23, south), wayOf(5, 5, west, 6, 6, east)}}
	texts := append(slices.Clone(someWayTexts), strings.Repeat(" ", 1000000), strings.Repeat("0 0 west ", 100000), strings.Repeat("\x00", 300))
	numbers := []int64{least, least + 1, -1, 0, 1, 2, 3, 4, 120, 1000, 1001, 1080, 100000, 100001, 1 << 32, greatest}
	for i, b := range boards {
		for j, w := range ways {
			k := i + j
			chapter5(lineArgs{b, w, cells[k%len(cells)], pieces[(i+2*j)%len(pieces)], lists[(2*i+j)%len(lists)], numbers[(3*i+j)%len(numbers)], texts[k%len(texts)]})
		}
	}
	for i, list := range lists {
		for j, number := range numbers {
			chapter5(lineArgs{boardOf(24, 24), ways[len(ways)-1], cells[j%len(cells)], pieces[(i+j)%len(pieces)], list, number, ""})
		}
	}
}

// P1: with a code other than OK all other results are zero values.
func TestChapter5ZeroResults(t *testing.T) {
	codes := map[int64]int{}
	all := variedArgs()
	all = append(all, lineArgs{board: fullBoard(24, 10, 200), way: wayOf(0, 9, west, 3, 9, east), list: []impl.Way{wayOf(0, 9, west, 3, 9, east)}, number: 9})
	for _, a := range all {
		for _, results := range chapter5(a) {
			codes[zeroBeside(t, results)]++
		}
	}
	for _, c := range []int64{impl.ErrInvalid, impl.ErrRange, impl.ErrState, impl.ErrSyntax, impl.ErrNotFound} {
		if codes[c] < 20 {
			t.Errorf("only %d times %s", codes[c], impl.CodeName(c))
		}
	}
	if codes[impl.ErrLimit] < 3 {
		t.Errorf("only %d times limit", codes[impl.ErrLimit])
	}
}

// P1: whoever else asks at the same time, the answer is the same.
func TestChapter5AtTheSameTime(t *testing.T) {
	a := lineArgs{board: boardOf(7, 7), way: wayOf(1, 3, west, 5, 3, east), list: []impl.Way{wayOf(2, 1, north, 2, 5, south), wayOf(1, 3, west, 5, 3, east)}, number: 60}
	want := chapter5(a)
	var group sync.WaitGroup
	for range 20 {
		group.Go(func() { same(t, "again", chapter5(a), want) })
	}
	group.Wait()
}
