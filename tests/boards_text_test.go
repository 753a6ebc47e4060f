package tests

import (
	"strings"
	"testing"

	"loop.example/g01274/impl"
)

func TestBoardText(t *testing.T) {
	b := boardOf(24, 10, pieceOf(23, 9, 0, 0, 1), pieceOf(0, 0, 1, 1, 2), pieceOf(1, 0, 2, 2, 3),
		pieceOf(10, 5, 3, 3, 4), pieceOf(2, 0, 4, 0, 8), pieceOf(3, 0, 5, 1, 9))
	want := "24 10\n23 9 line 0 1\n0 0 corner 1 2\n1 0 fork 2 3\n10 5 oneway 3 4\n2 0 gate 0 8\n3 0 cross 1 9\n"
	same(t, "text", impl.BoardText(b), want)
	back, c := impl.ReadBoard(want)
	boardIs(t, "read", back, c, b)
	same(t, "no pieces", impl.BoardText(boardOf(1, 2)), "1 2\n")
}

// Boards are read from their texts.
func TestReadWhatIsWritten(t *testing.T) {
	for _, b := range someBoards() {
		got, c := impl.ReadBoard(impl.BoardText(b))
		boardIs(t, "written and read", got, c, b)
	}
}

func TestReadBoardErrors(t *testing.T) {
	texts := []string{
		"", "\n", "\n\n", " ", "2", "2\n", "2 1", "2 1 \n", " 2 1\n", "2  1\n", "2\t1\n", "2 1\r\n", "2 1 1\n", "2 1\n\n", "\n2 1\n",
		"02 1\n", "2 01\n", "+2 1\n", "-2 1\n", "2 -1\n", "2 1.\n", "0x2 1\n", "2_0 1\n", "\u0662 1\n", "a b\n",
		"0 1\n", "1 0\n", "25 1\n", "1 25\n", "258 1\n", "1 257\n", "99999999999999999999 1\n",
		"2 1\n1 0 line 0 1", "2 1\n1 0 line 0 1\n\n", "2 1\n\n1 0 line 0 1\n", "2 1\n1 0 line 0 1\n ", "2 1\n1 0 line 0 1 \n",
		"2 1\n 1 0 line 0 1\n", "2 1\n1  0 line 0 1\n", "2 1\n1 0 line 0\n", "2 1\n1 0 line 0 1 1\n", "2 1\n1 0 0 1\n",
		"2 1\n1 0 Line 0 1\n", "2 1\n1 0 lin 0 1\n", "2 1\n1 0 l 0 1\n", "2 1\n1 0  0 1\n", "2 1\n1 0 0 0 1\n", "2 1\n1 0 one way 0 1\n",
		"2 1\n2 0 line 0 1\n", "2 1\n0 1 line 0 1\n", "2 1\n-1 0 line 0 1\n", "2 1\n1 -0 line 0 1\n", "2 1\n01 0 line 0 1\n",
		"2 1\n1 0 line 4 1\n", "2 1\n1 0 line -1 1\n", "2 1\n1 0 line 0 0\n", "2 1\n1 0 line 0 10\n", "2 1\n1 0 line 0 01\n",
		"2 1\n257 0 line 0 1\n", "2 1\n1 0 line 256 1\n", "2 1\n1 0 line 0 257\n", "2 1\n1 0 line +0 1\n",
		"2 1\n1 0 line 0 1\n1 0 gate 0 1\n", "1 0 line 0 1\n", "1 0 line 0 1\n2 1\n", "2 1\nline 1 0 0 1\n",
	}
	for _, text := range texts {
		got, c := impl.ReadBoard(text)
		boardFails(t, "ReadBoard of "+text, got, c, impl.ErrSyntax)
	}
}

func TestReadBoardLimit(t *testing.T) {
	full := impl.BoardText(fullBoard(24, 10, 200))
	got, c := impl.ReadBoard(full)
	boardIs(t, "the most pieces", got, c, fullBoard(24, 10, 200))
	got, c = impl.ReadBoard(full + "23 9 line 0 1\n")
	boardFails(t, "one too many", got, c, impl.ErrSyntax)
	for _, long := range []string{strings.Repeat("\n", 1000000), strings.Repeat(" ", 1000000), strings.Repeat("1", 1000000), "2 1\n" + strings.Repeat("1 0 line 0 1\n", 70000)} {
		got, c = impl.ReadBoard(long)
		boardFails(t, "long", got, c, impl.ErrSyntax)
	}
}
