package tests

import (
	"testing"

	"loop.example/g01274/impl"
)

func TestValidBoards(t *testing.T) {
	for _, b := range someBoards() {
		same(t, "valid", impl.ValidBoard(b), true)
	}
	for name, b := range badBoards() {
		same(t, name, impl.ValidBoard(b), false)
	}
}

func TestSameBoards(t *testing.T) {
	one := boardOf(3, 2, pieceOf(2, 1, 4, 0, 1), pieceOf(1, 1, 0, 0, 2))
	same(t, "the same", impl.SameBoard(one, boardOf(3, 2, pieceOf(2, 1, 4, 0, 1), pieceOf(1, 1, 0, 0, 2))), true)
	others := []impl.Board{
		boardOf(4, 2, one.Pieces...), boardOf(3, 3, one.Pieces...), boardOf(3, 2, one.Pieces[:1]...), boardOf(3, 2),
		boardOf(3, 2, one.Pieces[1], one.Pieces[0]), boardOf(3, 2, one.Pieces[0], pieceOf(1, 1, 0, 0, 3)),
		boardOf(3, 2, one.Pieces[0], pieceOf(1, 1, 0, 2, 2)), boardOf(3, 2, one.Pieces[0], pieceOf(1, 1, 1, 0, 2)),
		boardOf(3, 2, one.Pieces[0], pieceOf(0, 1, 0, 0, 2)), boardOf(3, 2, one.Pieces[0], pieceOf(1, 0, 0, 0, 2)),
	}
	for _, b := range others {
		same(t, "other", impl.SameBoard(one, b), false)
		same(t, "other", impl.SameBoard(b, one), false)
	}
	for name, b := range badBoards() {
		same(t, name, impl.SameBoard(b, impl.Board{Wide: b.Wide, High: b.High, Pieces: append([]impl.Piece{}, b.Pieces...)}), true)
		same(t, name, impl.SameBoard(b, one), false)
	}
	same(t, "nil and empty", impl.SameBoard(boardOf(1, 1), impl.Board{Wide: 1, High: 1, Pieces: []impl.Piece{}}), true)
}

// Every function with a board returns ErrInvalid first if it is not valid, whatever else is wrong.
func TestInvalidBoards(t *testing.T) {
	good, piece := boardOf(2, 2, pieceOf(0, 0, 0, 0, 1)), pieceOf(0, 0, 0, 0, 1)
	for name, b := range badBoards() {
		for _, wrong := range []int64{0, -1, 1000} {
			i, c := impl.PieceAt(b, cell(-1, int8(wrong)))
			code(t, name+", PieceAt", c, impl.ErrInvalid)
			same(t, name+", PieceAt", i, int64(0))
			counts, c := impl.CountKinds(b)
			code(t, name+", CountKinds", c, impl.ErrInvalid)
			same(t, name+", CountKinds", counts, [6]int64{})
			near, c := impl.NeighboursOf(b, wrong)
			code(t, name+", NeighboursOf", c, impl.ErrInvalid)
			same(t, name+", NeighboursOf", near, [4]int64{})
			moved, c := impl.MoveBoard(b, wrong, wrong)
			boardFails(t, name+", MoveBoard", moved, c, impl.ErrInvalid)
			turned, c := impl.TurnBoard(b, wrong)
			boardFails(t, name+", TurnBoard", turned, c, impl.ErrInvalid)
		}
		put, c := impl.PutPiece(b, piece)
		boardFails(t, name+", PutPiece", put, c, impl.ErrInvalid)
		taken, c := impl.TakePiece(b, cell(0, 0))
		boardFails(t, name+", TakePiece", taken, c, impl.ErrInvalid)
		joined, c := impl.JoinBoards(b, good)
		boardFails(t, name+", JoinBoards", joined, c, impl.ErrInvalid)
		joined, c = impl.JoinBoards(good, b)
		boardFails(t, name+", JoinBoards behind", joined, c, impl.ErrInvalid)
		sorted, c := impl.SortBoard(b)
		boardFails(t, name+", SortBoard", sorted, c, impl.ErrInvalid)
		picture, c := impl.BoardPicture(b)
		code(t, name+", BoardPicture", c, impl.ErrInvalid)
		same(t, name+", BoardPicture", len(picture), 0)
		same(t, name+", BoardText", impl.BoardText(b), "")
	}
}

func TestPieceAt(t *testing.T) {
	for _, b := range someBoards() {
		for x := int8(-1); x <= b.Wide; x++ {
			for y := int8(-1); y <= b.High; y++ {
				want, wantCode := int64(0), int64(impl.ErrNotFound)
				for i, p := range b.Pieces {
					if p.At == cell(x, y) {
						want, wantCode = int64(i), impl.OK
					}
				}
				got, c := impl.PieceAt(b, cell(x, y))
				same(t, "PieceAt", []int64{got, c}, []int64{want, wantCode})
			}
		}
		_, c := impl.PieceAt(b, cell(-128, 127))
		code(t, "far", c, impl.ErrNotFound)
	}
}

func TestPutPiece(t *testing.T) {
	b := boardOf(3, 2, pieceOf(2, 1, impl.PcGate, 0, 1))
	got, c := impl.PutPiece(b, pieceOf(0, 0, impl.PcFork, 1, 9))
	boardIs(t, "put", got, c, boardOf(3, 2, b.Pieces[0], pieceOf(0, 0, impl.PcFork, 1, 9)))
	got, c = impl.PutPiece(boardOf(1, 1), pieceOf(0, 0, 0, 0, 1))
	boardIs(t, "put on none", got, c, boardOf(1, 1, pieceOf(0, 0, 0, 0, 1)))
	for _, p := range badPieces() {
		got, c = impl.PutPiece(b, p)
		boardFails(t, "not valid", got, c, impl.ErrInvalid)
	}
	for _, p := range []impl.Piece{pieceOf(3, 1, 0, 0, 1), pieceOf(2, 2, 0, 0, 1), pieceOf(23, 23, 0, 0, 1)} {
		got, c = impl.PutPiece(b, p)
		boardFails(t, "outside", got, c, impl.ErrRange)
	}
	got, c = impl.PutPiece(b, pieceOf(2, 1, impl.PcGate, 0, 1))
	boardFails(t, "taken", got, c, impl.ErrState)
}

func TestPutPieceLimit(t *testing.T) {
	last := fullBoard(24, 10, 199)
	got, c := impl.PutPiece(last, pieceOf(23, 9, 2, 2, 2))
	want := last
	want.Pieces = append(append([]impl.Piece{}, last.Pieces...), pieceOf(23, 9, 2, 2, 2))
	boardIs(t, "the last one", got, c, want)
	full := fullBoard(24, 10, 200)
	got, c = impl.PutPiece(full, pieceOf(23, 9, 2, 2, 2))
	boardFails(t, "one too many", got, c, impl.ErrLimit)
	got, c = impl.PutPiece(full, pieceOf(23, 10, 2, 2, 2))
	boardFails(t, "outside before too many", got, c, impl.ErrRange)
	got, c = impl.PutPiece(full, pieceOf(0, 0, 2, 2, 2))
	boardFails(t, "taken before too many", got, c, impl.ErrState)
	got, c = impl.PutPiece(full, pieceOf(0, 0, 2, 2, 0))
	boardFails(t, "not valid before all", got, c, impl.ErrInvalid)
}

func TestTakePiece(t *testing.T) {
	a, b, c := pieceOf(2, 1, 4, 0, 1), pieceOf(1, 1, 0, 0, 2), pieceOf(1, 0, 5, 0, 1)
	board := boardOf(3, 2, a, b, c)
	got, code1 := impl.TakePiece(board, b.At)
	boardIs(t, "the middle one", got, code1, boardOf(3, 2, a, c))
	got, code1 = impl.TakePiece(board, a.At)
	boardIs(t, "the first one", got, code1, boardOf(3, 2, b, c))
	got, code1 = impl.TakePiece(board, c.At)
	boardIs(t, "the last one", got, code1, boardOf(3, 2, a, b))
	got, code1 = impl.TakePiece(boardOf(1, 1, pieceOf(0, 0, 0, 0, 1)), cell(0, 0))
	boardIs(t, "the only one", got, code1, boardOf(1, 1))
	for _, none := range []impl.Cell{{0, 0}, {3, 0}, {0, 2}, {-1, 0}, {127, -128}} {
		got, code1 = impl.TakePiece(board, none)
		boardFails(t, "none there", got, code1, impl.ErrNotFound)
	}
}

// P3: what is put can be taken.
func TestPutAndTake(t *testing.T) {
	for _, b := range someBoards() {
		for x := range b.Wide {
			for y := range b.High {
				p := pieceOf(x, y, (x+y)%6, y%4, 1+x%9)
				put, c := impl.PutPiece(b, p)
				if c != impl.OK {
					continue
				}
				i, c := impl.PieceAt(put, p.At)
				same(t, "found", []int64{i, c}, []int64{int64(len(b.Pieces)), 0})
				taken, c := impl.TakePiece(put, p.At)
				boardIs(t, "put and taken", taken, c, b)
			}
		}
		for i, p := range b.Pieces {
			taken, c := impl.TakePiece(b, p.At)
			code(t, "taken", c, impl.OK)
			put, c := impl.PutPiece(taken, p)
			want := impl.Board{Wide: b.Wide, High: b.High}
			want.Pieces = append(append(append(want.Pieces, b.Pieces[:i]...), b.Pieces[i+1:]...), p)
			boardIs(t, "taken and put", put, c, want)
		}
	}
}

func TestCountKinds(t *testing.T) {
	none, c := impl.CountKinds(boardOf(24, 24))
	code(t, "none", c, impl.OK)
	same(t, "none", none, [6]int64{})
	all, c := impl.CountKinds(fullBoard(20, 10, 200))
	code(t, "all", c, impl.OK)
	same(t, "all", all, [6]int64{34, 34, 33, 33, 33, 33})
	some, c := impl.CountKinds(someBoards()[2])
	code(t, "some", c, impl.OK)
	same(t, "some", some, [6]int64{1, 0, 0, 0, 1, 1})
}

func TestNeighboursOf(t *testing.T) {
	b := boardOf(3, 3, pieceOf(1, 1, 0, 0, 1), pieceOf(1, 0, 0, 0, 1), pieceOf(2, 1, 0, 0, 1), pieceOf(1, 2, 0, 0, 1), pieceOf(0, 1, 0, 0, 1))
	for i, want := range [][4]int64{{1, 2, 3, 4}, {-1, -1, 0, -1}, {-1, -1, -1, 0}, {0, -1, -1, -1}, {-1, 0, -1, -1}} {
		near, c := impl.NeighboursOf(b, int64(i))
		code(t, "NeighboursOf", c, impl.OK)
		same(t, "NeighboursOf", near, want)
	}
	row := boardOf(2, 2, pieceOf(1, 0, 0, 0, 1), pieceOf(0, 1, 0, 0, 1))
	near, c := impl.NeighboursOf(row, 0)
	code(t, "rows do not run on", c, impl.OK)
	same(t, "rows do not run on", near, [4]int64{-1, -1, -1, -1})
	for _, none := range []int64{-1, 5, 256, 1 << 32, least, greatest} {
		near, c = impl.NeighboursOf(b, none)
		code(t, "no index", c, impl.ErrRange)
		same(t, "no index", near, [4]int64{})
	}
	_, c = impl.NeighboursOf(boardOf(3, 3), 0)
	code(t, "no piece", c, impl.ErrRange)
}

func TestMoveBoard(t *testing.T) {
	b := boardOf(4, 3, pieceOf(2, 1, 4, 3, 1), pieceOf(1, 1, 0, 0, 2))
	got, c := impl.MoveBoard(b, 1, -1)
	boardIs(t, "moved", got, c, boardOf(4, 3, pieceOf(3, 0, 4, 3, 1), pieceOf(2, 0, 0, 0, 2)))
	got, c = impl.MoveBoard(b, -1, 1)
	boardIs(t, "moved", got, c, boardOf(4, 3, pieceOf(1, 2, 4, 3, 1), pieceOf(0, 2, 0, 0, 2)))
	for _, by := range [][2]int64{{2, 0}, {-2, 0}, {0, 2}, {0, -2}, {24, 24}, {-24, -24}, {24, -24}} {
		got, c = impl.MoveBoard(b, by[0], by[1])
		boardFails(t, "out of the board", got, c, impl.ErrState)
	}
	for _, by := range [][2]int64{{25, 0}, {-25, 0}, {0, 25}, {0, -25}, {256, 0}, {0, 256}, {least, 0}, {0, greatest}, {24, 25}} {
		got, c = impl.MoveBoard(b, by[0], by[1])
		boardFails(t, "too far", got, c, impl.ErrRange)
		got, c = impl.MoveBoard(boardOf(4, 3), by[0], by[1])
		boardFails(t, "too far, no pieces", got, c, impl.ErrRange)
	}
	got, c = impl.MoveBoard(boardOf(4, 3), -24, 24)
	boardIs(t, "no pieces", got, c, boardOf(4, 3))
	corner := boardOf(24, 24, pieceOf(23, 23, 1, 1, 1))
	got, c = impl.MoveBoard(corner, -23, -23)
	boardIs(t, "across", got, c, boardOf(24, 24, pieceOf(0, 0, 1, 1, 1)))
	got, c = impl.MoveBoard(corner, 24, 0)
	boardFails(t, "far across", got, c, impl.ErrState)
}

// P3: boards that are moved there and back are as they were.
func TestMoveThereAndBack(t *testing.T) {
	moves := 0
	for _, b := range someBoards() {
		for east := int64(-24); east <= 24; east++ {
			for south := int64(-24); south <= 24; south++ {
				moved, c := impl.MoveBoard(b, east, south)
				if c != impl.OK {
					continue
				}
				moves++
				back, c := impl.MoveBoard(moved, -east, -south)
				boardIs(t, "there and back", back, c, b)
			}
		}
	}
	if moves < len(someBoards()) {
		t.Errorf("only %d moves", moves)
	}
}

func TestTurnBoard(t *testing.T) {
	b := boardOf(3, 2, pieceOf(2, 1, 4, 0, 1), pieceOf(1, 1, 0, 3, 2), pieceOf(1, 0, 5, 1, 1))
	want := []impl.Board{
		b,
		boardOf(2, 3, pieceOf(0, 2, 4, 1, 1), pieceOf(0, 1, 0, 0, 2), pieceOf(1, 1, 5, 2, 1)),
		boardOf(3, 2, pieceOf(0, 0, 4, 2, 1), pieceOf(1, 0, 0, 1, 2), pieceOf(1, 1, 5, 3, 1)),
		boardOf(2, 3, pieceOf(1, 0, 4, 3, 1), pieceOf(1, 1, 0, 2, 2), pieceOf(0, 1, 5, 0, 1)),
	}
	for q := int64(-100); q <= 100; q++ {
		got, c := impl.TurnBoard(b, q)
		boardIs(t, "turned", got, c, want[(q+100)%4])
	}
	for _, q := range []int64{-101, 101, 256, least, greatest} {
		got, c := impl.TurnBoard(b, q)
		boardFails(t, "too many quarters", got, c, impl.ErrRange)
	}
	empty, c := impl.TurnBoard(boardOf(24, 1), 3)
	boardIs(t, "no pieces", empty, c, boardOf(1, 24))
}

// P3: boards that are turned there and back, or by four quarters, are as they were.
func TestTurnThereAndBack(t *testing.T) {
	for _, b := range someBoards() {
		for q := int64(-8); q <= 8; q++ {
			turned, c := impl.TurnBoard(b, q)
			code(t, "there", c, impl.OK)
			back, c := impl.TurnBoard(turned, -q)
			boardIs(t, "there and back", back, c, b)
		}
		four := b
		for range 4 {
			four, _ = impl.TurnBoard(four, 1)
		}
		boardIs(t, "four quarters", four, impl.OK, b)
	}
}

// P2: on a board that is turned, each piece has its neighbours, and hits them, on the turned sides.
func TestTurnKeepsNeighbours(t *testing.T) {
	b := fullBoard(5, 4, 20)
	for q := range int64(4) {
		turned, _ := impl.TurnBoard(b, q)
		for i := range b.Pieces {
			near, _ := impl.NeighboursOf(b, int64(i))
			after, c := impl.NeighboursOf(turned, int64(i))
			code(t, "neighbours", c, impl.OK)
			for s := range int64(4) {
				same(t, "neighbour", after[(s+q)%4], near[s])
				hits, _ := impl.HitsFrom(b.Pieces[i], s)
				then, _ := impl.HitsFrom(turned.Pieces[i], (s+q)%4)
				for h := range int64(4) {
					same(t, "hit", then[(h+q)%4], hits[h])
				}
			}
		}
	}
}

func TestJoinBoards(t *testing.T) {
	a := boardOf(3, 2, pieceOf(2, 1, 4, 0, 1), pieceOf(1, 1, 0, 0, 2))
	b := boardOf(24, 24, pieceOf(1, 0, 5, 0, 1), pieceOf(0, 1, 1, 1, 3))
	got, c := impl.JoinBoards(a, b)
	boardIs(t, "joined", got, c, boardOf(3, 2, a.Pieces[0], a.Pieces[1], b.Pieces[0], b.Pieces[1]))
	got, c = impl.JoinBoards(a, boardOf(1, 1))
	boardIs(t, "with none", got, c, a)
	got, c = impl.JoinBoards(boardOf(4, 4), a)
	boardIs(t, "on none", got, c, boardOf(4, 4, a.Pieces...))
	for _, p := range []impl.Piece{pieceOf(3, 0, 0, 0, 1), pieceOf(0, 2, 0, 0, 1)} {
		got, c = impl.JoinBoards(a, boardOf(24, 24, p))
		boardFails(t, "outside", got, c, impl.ErrRange)
		got, c = impl.JoinBoards(a, boardOf(24, 24, pieceOf(2, 1, 4, 0, 1), p))
		boardFails(t, "outside before taken", got, c, impl.ErrRange)
	}
	got, c = impl.JoinBoards(a, boardOf(24, 24, pieceOf(0, 0, 0, 0, 1), pieceOf(1, 1, 1, 0, 1)))
	boardFails(t, "taken", got, c, impl.ErrState)
	got, c = impl.JoinBoards(a, a)
	boardFails(t, "with itself", got, c, impl.ErrState)
}

func TestJoinBoardsLimit(t *testing.T) {
	full := fullBoard(24, 20, 150)
	second := boardOf(24, 24)
	for i := range int8(50) {
		second.Pieces = append(second.Pieces, pieceOf(i%24, 10+i/24, 0, 0, 1))
	}
	want := boardOf(24, 20, append(append([]impl.Piece{}, full.Pieces...), second.Pieces...)...)
	got, c := impl.JoinBoards(full, second)
	boardIs(t, "just enough", got, c, want)
	more := boardOf(24, 24, append(append([]impl.Piece{}, second.Pieces...), pieceOf(0, 15, 0, 0, 1))...)
	got, c = impl.JoinBoards(full, more)
	boardFails(t, "one too many", got, c, impl.ErrLimit)
	more.Pieces[50].At = cell(0, 20)
	got, c = impl.JoinBoards(full, more)
	boardFails(t, "outside before too many", got, c, impl.ErrRange)
	more.Pieces[50].At = cell(0, 0)
	got, c = impl.JoinBoards(full, more)
	boardFails(t, "taken before too many", got, c, impl.ErrState)
}

func TestSortBoard(t *testing.T) {
	a, b, c, d := pieceOf(2, 1, 4, 0, 1), pieceOf(1, 1, 0, 3, 2), pieceOf(1, 0, 5, 0, 1), pieceOf(0, 2, 1, 1, 9)
	got, code1 := impl.SortBoard(boardOf(3, 3, d, a, b, c))
	boardIs(t, "sorted", got, code1, boardOf(3, 3, c, b, a, d))
	for _, board := range someBoards() {
		sorted, code1 := impl.SortBoard(board)
		code(t, "sorted", code1, impl.OK)
		same(t, "as many", len(sorted.Pieces), len(board.Pieces))
		for i, p := range sorted.Pieces {
			if i > 0 && int(p.At[1])*100+int(p.At[0]) <= int(sorted.Pieces[i-1].At[1])*100+int(sorted.Pieces[i-1].At[0]) {
				t.Errorf("sorted: %v behind %v", p, sorted.Pieces[i-1])
			}
			j, _ := impl.PieceAt(board, p.At)
			same(t, "the piece", board.Pieces[j], p)
		}
		again, code1 := impl.SortBoard(sorted)
		boardIs(t, "sorted again", again, code1, sorted)
	}
}

func TestBoardPicture(t *testing.T) {
	got, c := impl.BoardPicture(boardOf(4, 3, pieceOf(3, 2, 5, 0, 1), pieceOf(0, 0, 0, 0, 1), pieceOf(1, 0, 1, 0, 1),
		pieceOf(0, 2, 2, 0, 1), pieceOf(1, 2, 3, 0, 1), pieceOf(2, 2, 4, 0, 1)))
	code(t, "picture", c, impl.OK)
	same(t, "picture", got, []string{"lc..", "....", "fogx"})
	got, c = impl.BoardPicture(boardOf(2, 1))
	code(t, "empty", c, impl.OK)
	same(t, "empty", got, []string{".."})
}
