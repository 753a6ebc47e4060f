package tests

import (
	"reflect"
	"slices"
	"testing"

	"loop.example/g01274/impl"
)

// chapter1 calls every function of the chapter, and returns all results in their order.
func chapter1(a, b impl.Board, p impl.Piece, c impl.Cell, n, m int64) []any {
	var all []any
	add := func(results ...any) { all = append(all, results...) }
	add(impl.CodeName(n))
	addTwo(add)(impl.OppositeSide(n))
	addTwo(add)(impl.NextCell(c, n))
	add(impl.ValidPiece(p))
	addTwo(add)(impl.FallsFrom(p, n))
	addTwo(add)(impl.HitsFrom(p, n))
	addTwo(add)(impl.TurnPiece(p, n))
	for _, q := range b.Pieces[:min(3, len(b.Pieces))] {
		addTwo(add)(impl.AlikePieces(p, q))
	}
	add(impl.ValidBoard(a), impl.SameBoard(a, b))
	addTwo(add)(impl.PieceAt(a, c))
	addTwo(add)(impl.PutPiece(a, p))
	addTwo(add)(impl.TakePiece(a, c))
	addTwo(add)(impl.CountKinds(a))
	addTwo(add)(impl.NeighboursOf(a, n))
	addTwo(add)(impl.MoveBoard(a, n, m))
	addTwo(add)(impl.TurnBoard(a, n))
	addTwo(add)(impl.JoinBoards(a, b))
	addTwo(add)(impl.SortBoard(a))
	add(impl.BoardText(a))
	addTwo(add)(impl.ReadBoard(impl.BoardText(a)))
	addTwo(add)(impl.BoardPicture(a))
	return all
}

// addTwo returns a function that takes a result and its code from a call; boards have their nil lists made empty.
func addTwo(add func(...any)) func(any, int64) {
	return func(result any, code int64) {
		if b, ok := result.(impl.Board); ok {
			b.Pieces = append([]impl.Piece{}, b.Pieces...)
			result = b
		}
		add(result, code)
	}
}

// roomy returns the board with room behind its pieces, and the whole of this.
func roomy(b impl.Board) (impl.Board, []impl.Piece) {
	whole := make([]impl.Piece, len(b.Pieces)+5)
	for i := range whole {
		whole[i] = pieceOf(77, 77, 77, 77, 77)
	}
	copy(whole, b.Pieces)
	b.Pieces = whole[:len(b.Pieces)]
	return b, whole
}

// P1: no function modifies an argument, nor the unused capacity of one, and equal arguments give equal results.
func TestChapter1Purity(t *testing.T) {
	boards := someBoards()
	for _, b := range badBoards() {
		boards = append(boards, b)
	}
	pieces := []impl.Piece{{}, pieceOf(0, 0, 0, 0, 1), pieceOf(2, 0, 2, 3, 9), pieceOf(23, 23, 5, 1, 1)}
	for i, a := range boards {
		b := boards[(i+1)%len(boards)]
		for j, p := range pieces {
			for n := int64(-2); n <= 4; n++ {
				roomyA, wholeA := roomy(a)
				roomyB, wholeB := roomy(b)
				keptA, keptB := slices.Clone(wholeA), slices.Clone(wholeB)
				one := chapter1(roomyA, roomyB, p, cell(int8(n), int8(j)), n, int64(j)-1)
				same(t, "first board", wholeA, keptA)
				same(t, "second board", wholeB, keptB)
				two := chapter1(a, b, p, cell(int8(n), int8(j)), n, int64(j)-1)
				same(t, "equal arguments", two, one)
			}
		}
	}
}

// P1: results share no memory with arguments.
func TestChapter1Sharing(t *testing.T) {
	for _, plain := range someBoards() {
		b, whole := roomy(plain)
		kept := slices.Clone(whole)
		free := pieceOf(0, 0, 0, 0, 1)
		for _, result := range boardResults(b, free) {
			pieces := result.Pieces[:cap(result.Pieces)]
			for i := range pieces {
				pieces[i] = pieceOf(99, 99, 99, 99, 99)
			}
			same(t, "shared", whole, kept)
		}
		first, _ := impl.BoardPicture(b)
		second, _ := impl.BoardPicture(b)
		first[0] = "changed"
		same(t, "picture", second[0] != "changed", true)
	}
}

// boardResults are all boards that the functions of chapter 1 make of one.
func boardResults(b impl.Board, free impl.Piece) []impl.Board {
	var all []impl.Board
	add := func(b impl.Board, code int64) {
		if code == impl.OK {
			all = append(all, b)
		}
	}
	add(impl.PutPiece(b, free))
	for _, p := range b.Pieces {
		add(impl.TakePiece(b, p.At))
	}
	add(impl.MoveBoard(b, 0, 0))
	for q := range int64(5) {
		add(impl.TurnBoard(b, q))
	}
	add(impl.JoinBoards(b, boardOf(1, 1)))
	add(impl.JoinBoards(boardOf(24, 24), b))
	add(impl.SortBoard(b))
	add(impl.ReadBoard(impl.BoardText(b)))
	return all
}

// P1: a nil list of pieces does the same as an empty one.
func TestChapter1NilAndEmpty(t *testing.T) {
	none, empty := boardOf(2, 2), impl.Board{Wide: 2, High: 2, Pieces: []impl.Piece{}}
	for n := int64(-1); n <= 4; n++ {
		p := pieceOf(1, 1, 1, 1, 1)
		same(t, "nil and empty", chapter1(none, none, p, p.At, n, 0), chapter1(empty, empty, p, p.At, n, 0))
	}
}

// P1: every function returns for all arguments, however large or wrong they are.
func TestChapter1Totality(t *testing.T) {
	large := impl.Board{Wide: 24, High: 24, Pieces: make([]impl.Piece, 500000)}
	boards := []impl.Board{{}, boardOf(-128, 127), large, fullBoard(20, 10, 200), boardOf(2, 2, pieceOf(-128, -128, -128, -128, -128))}
	pieces := []impl.Piece{{}, pieceOf(127, 127, 127, 127, 127), pieceOf(-128, -128, -128, -128, -128), pieceOf(1, 1, 1, 1, 1)}
	numbers := []int64{least, least + 1, -101, -25, -1, 0, 3, 4, 24, 100, 128, 255, 1 << 32, greatest}
	for i, a := range boards {
		for j, n := range numbers {
			p := pieces[(i+j)%len(pieces)]
			chapter1(a, boards[(i+j)%len(boards)], p, p.At, n, numbers[len(numbers)-1-j])
		}
	}
}

// P1: with a code other than OK all other results are zero values.
func TestChapter1ZeroResults(t *testing.T) {
	for name, b := range badBoards() {
		all := chapter1(b, b, impl.Piece{}, cell(-128, 0), 77, 77)
		for i := 1; i < len(all); i++ {
			c, isCode := all[i].(int64)
			if !isCode || c == impl.OK {
				continue
			}
			v := reflect.ValueOf(all[i-1])
			if board, ok := all[i-1].(impl.Board); ok {
				same(t, name, []int{int(board.Wide), int(board.High), len(board.Pieces)}, []int{0, 0, 0})
			} else if v.Kind() == reflect.Slice {
				same(t, name, v.Len(), 0)
			} else {
				same(t, name, v.IsZero(), true)
			}
		}
	}
}
