package tests

import (
	"reflect"
	"slices"
	"testing"

	"loop.example/g01274/impl"
)

// same fails the test if two values are not deeply equal.
func same(t *testing.T, name string, got, want any) {
	t.Helper()
	if !reflect.DeepEqual(got, want) {
		t.Errorf("%s: got %v, want %v", name, got, want)
	}
}

// code fails the test if a code is not the one that is wanted.
func code(t *testing.T, name string, got, want int64) {
	t.Helper()
	if got != want {
		t.Errorf("%s: got the code %s, want %s", name, impl.CodeName(got), impl.CodeName(want))
	}
}

// boardIs fails the test if a board, with its code OK, is not the one that is wanted.
func boardIs(t *testing.T, name string, got impl.Board, gotCode int64, want impl.Board) {
	t.Helper()
	code(t, name, gotCode, impl.OK)
	if got.Wide != want.Wide || got.High != want.High || !slices.Equal(got.Pieces, want.Pieces) {
		t.Errorf("%s: got %v, want %v", name, got, want)
	}
}

// boardFails fails the test if there is no such code, or a board beside it.
func boardFails(t *testing.T, name string, got impl.Board, gotCode, want int64) {
	t.Helper()
	code(t, name, gotCode, want)
	if got.Wide != 0 || got.High != 0 || len(got.Pieces) != 0 {
		t.Errorf("%s: got %v beside the code %s", name, got, impl.CodeName(gotCode))
	}
}

// evened makes nil lists in the results of several calls empty, also those of boards.
func evened(all [][]any) [][]any {
	for _, results := range all {
		for i := range results {
			results[i] = even(results[i])
			if b, ok := results[i].(impl.Board); ok {
				results[i] = evenBoard(b)
			}
		}
	}
	return all
}

// zeroBeside fails the test if anything but zero values is beside a code other than OK, which is the last one of the results; it returns the code.
func zeroBeside(t *testing.T, results []any) int64 {
	t.Helper()
	last := len(results) - 1
	code := results[last].(int64)
	if code == impl.OK {
		return code
	}
	for _, result := range results[:last] {
		v := reflect.ValueOf(result)
		zero := v.IsZero() || v.Kind() == reflect.Slice && v.Len() == 0
		same(t, "zero", zero || reflect.DeepEqual(result, evenBoard(impl.Board{})), true)
	}
	return code
}

func cell(x, y int8) impl.Cell { return impl.Cell{x, y} }

func pieceOf(x, y, kind, turn, delay int8) impl.Piece {
	return impl.Piece{At: cell(x, y), Kind: kind, Turn: turn, Delay: delay}
}

func boardOf(wide, high int8, pieces ...impl.Piece) impl.Board {
	return impl.Board{Wide: wide, High: high, Pieces: pieces}
}

// fullBoard has so many pieces, row by row, of all kinds, turns and delays.
func fullBoard(wide, high int8, count int) impl.Board {
	b := impl.Board{Wide: wide, High: high}
	for i := range count {
		x, y := int8(i%int(wide)), int8(i/int(wide))
		b.Pieces = append(b.Pieces, pieceOf(x, y, int8(i%6), int8(i/3%4), int8(1+i%9)))
	}
	return b
}

// someBoards are valid boards of several sizes.
func someBoards() []impl.Board {
	return []impl.Board{
		boardOf(1, 1),
		boardOf(1, 1, pieceOf(0, 0, impl.PcCross, 3, 9)),
		boardOf(3, 2, pieceOf(2, 1, impl.PcGate, 0, 1), pieceOf(1, 1, impl.PcLine, 1, 2), pieceOf(1, 0, impl.PcCross, 2, 1)),
		boardOf(24, 1, pieceOf(23, 0, impl.PcFork, 1, 4), pieceOf(0, 0, impl.PcOneWay, 3, 5)),
		boardOf(1, 24, pieceOf(0, 23, impl.PcCorner, 2, 6)),
		fullBoard(5, 4, 20),
		fullBoard(20, 10, 200),
		boardOf(24, 24, pieceOf(0, 0, 0, 0, 1), pieceOf(23, 23, 5, 3, 9)),
	}
}

// badBoards are invalid, each for one reason.
func badBoards() map[string]impl.Board {
	good := pieceOf(0, 0, impl.PcLine, 0, 1)
	return map[string]impl.Board{
		"zero":             {},
		"no width":         boardOf(0, 1),
		"no height":        boardOf(1, 0),
		"width below":      boardOf(-1, 1),
		"height below":     boardOf(1, -128),
		"too wide":         boardOf(25, 1),
		"too high":         boardOf(1, 25),
		"as wide as told":  boardOf(127, 127),
		"too many":         fullBoard(24, 24, 201),
		"same cell":        boardOf(2, 2, good, pieceOf(1, 1, 0, 0, 1), pieceOf(0, 0, impl.PcGate, 0, 2)),
		"bad kind":         boardOf(2, 2, pieceOf(0, 0, 6, 0, 1)),
		"bad turn":         boardOf(2, 2, good, pieceOf(1, 0, 0, 4, 1)),
		"bad delay":        boardOf(2, 2, pieceOf(0, 0, 0, 0, 0)),
		"outside, east":    boardOf(2, 3, pieceOf(2, 0, 0, 0, 1)),
		"outside, south":   boardOf(3, 2, pieceOf(0, 2, 0, 0, 1)),
		"outside, west":    boardOf(2, 2, pieceOf(-1, 0, 0, 0, 1)),
		"outside, north":   boardOf(2, 2, pieceOf(0, -1, 0, 0, 1)),
		"outside of any":   boardOf(24, 24, pieceOf(24, 0, 0, 0, 1)),
		"far and not told": boardOf(24, 24, pieceOf(127, -128, 0, 0, 1)),
	}
}

const (
	least    = -1 << 63
	greatest = 1<<63 - 1
)
