package tests

import (
	"strings"
	"testing"

	"loop.example/g01274/impl"
)

func TestCodeNames(t *testing.T) {
	names := []string{"ok", "invalid", "range", "limit", "state", "syntax", "notfound", "budget", "proof"}
	codes := []int64{impl.OK, impl.ErrInvalid, impl.ErrRange, impl.ErrLimit, impl.ErrState, impl.ErrSyntax, impl.ErrNotFound, impl.ErrBudget, impl.ErrProof}
	for i, name := range names {
		same(t, "number", codes[i], int64(i))
		same(t, "name", impl.CodeName(int64(i)), name)
	}
	for _, none := range []int64{-1, 9, 256, 1 << 32, least, greatest} {
		same(t, "no name", impl.CodeName(none), "")
	}
}

func TestOppositeSides(t *testing.T) {
	for s, want := range []int64{impl.SdSouth, impl.SdWest, impl.SdNorth, impl.SdEast} {
		got, c := impl.OppositeSide(int64(s))
		code(t, "OppositeSide", c, impl.OK)
		same(t, "OppositeSide", got, want)
	}
	for _, none := range []int64{-1, 4, 256, 257, least, greatest} {
		got, c := impl.OppositeSide(none)
		code(t, "OppositeSide", c, impl.ErrRange)
		same(t, "OppositeSide", got, int64(0))
	}
}

func TestNextCells(t *testing.T) {
	for s, want := range []impl.Cell{{3, 3}, {4, 4}, {3, 5}, {2, 4}} {
		got, c := impl.NextCell(cell(3, 4), int64(s))
		code(t, "NextCell", c, impl.OK)
		same(t, "NextCell", got, want)
		back, _ := impl.OppositeSide(int64(s))
		home, _ := impl.NextCell(got, back)
		same(t, "there and back", home, cell(3, 4))
	}
	west, c := impl.NextCell(cell(-100, 100), impl.SdWest)
	code(t, "farthest", c, impl.OK)
	same(t, "farthest", west, cell(-101, 100))
	south, c := impl.NextCell(cell(100, 100), impl.SdSouth)
	code(t, "farthest", c, impl.OK)
	same(t, "farthest", south, cell(100, 101))
	for _, far := range []impl.Cell{{101, 0}, {0, 101}, {-101, 0}, {0, -101}, {127, 127}, {-128, -128}} {
		got, c := impl.NextCell(far, impl.SdEast)
		code(t, "too far", c, impl.ErrRange)
		same(t, "too far", got, impl.Cell{})
	}
	for _, none := range []int64{-1, 4, 259, least, greatest} {
		got, c := impl.NextCell(cell(1, 1), none)
		code(t, "no side", c, impl.ErrRange)
		same(t, "no side", got, impl.Cell{})
	}
}

func TestValidPieces(t *testing.T) {
	good := []impl.Piece{
		pieceOf(0, 0, impl.PcLine, 0, 1), pieceOf(23, 23, impl.PcCross, 3, 9),
		pieceOf(0, 23, impl.PcFork, 1, 5), pieceOf(23, 0, impl.PcGate, 2, 8),
	}
	for _, p := range good {
		same(t, "valid", impl.ValidPiece(p), true)
	}
	for _, p := range badPieces() {
		same(t, "not valid", impl.ValidPiece(p), false)
	}
}

// badPieces are invalid, each for one reason.
func badPieces() []impl.Piece {
	return []impl.Piece{
		{},
		pieceOf(-1, 0, 0, 0, 1), pieceOf(24, 0, 0, 0, 1), pieceOf(0, -1, 0, 0, 1), pieceOf(0, 24, 0, 0, 1),
		pieceOf(127, 0, 0, 0, 1), pieceOf(0, -128, 0, 0, 1),
		pieceOf(0, 0, -1, 0, 1), pieceOf(0, 0, 6, 0, 1), pieceOf(0, 0, -128, 0, 1), pieceOf(0, 0, 127, 0, 1),
		pieceOf(0, 0, 0, -1, 1), pieceOf(0, 0, 0, 4, 1), pieceOf(0, 0, 0, 127, 1), pieceOf(0, 0, 0, -128, 1),
		pieceOf(0, 0, 0, 0, 0), pieceOf(0, 0, 0, 0, 10), pieceOf(0, 0, 0, 0, -1), pieceOf(0, 0, 0, 0, 127),
	}
}

// kindRules are the rows of the document's table: what is hit from a side, and then hits.
var kindRules = [6]string{
	"W:E E:W",
	"W:S S:W",
	"W:NS N:SW S:NW",
	"W:E",
	"W:E E:W N: S:",
	"N:S E:W S:N W:E",
}

// ruleOf tells what a piece of a kind does that has not been turned.
func ruleOf(kind, side int) (bool, [4]bool) {
	for _, rule := range strings.Fields(kindRules[kind]) {
		if rule[0] != "NESW"[side] {
			continue
		}
		var hits [4]bool
		for i := range hits {
			hits[i] = strings.Contains(rule[2:], "NESW"[i:i+1])
		}
		return true, hits
	}
	return false, [4]bool{}
}

// P2: what a kind does is as in the table, and with a turn all sides turn with it.
func TestKindsAndTurns(t *testing.T) {
	for kind := range 6 {
		for turn := range 4 {
			for side := range 4 {
				falls, hits := ruleOf(kind, side)
				var want [4]bool
				for i, hit := range hits {
					want[(i+turn)%4] = hit
				}
				p := pieceOf(7, 8, int8(kind), int8(turn), 3)
				from := int64((side + turn) % 4)
				gotFalls, one := impl.FallsFrom(p, from)
				gotHits, two := impl.HitsFrom(p, from)
				same(t, "FallsFrom", []any{p, from, gotFalls, one}, []any{p, from, falls, int64(0)})
				same(t, "HitsFrom", []any{p, from, gotHits, two}, []any{p, from, want, int64(0)})
			}
		}
	}
}

func TestHitErrors(t *testing.T) {
	for _, p := range badPieces() {
		for _, side := range []int64{0, 4} {
			falls, c := impl.FallsFrom(p, side)
			code(t, "FallsFrom, not valid", c, impl.ErrInvalid)
			same(t, "FallsFrom, not valid", falls, false)
			hits, c := impl.HitsFrom(p, side)
			code(t, "HitsFrom, not valid", c, impl.ErrInvalid)
			same(t, "HitsFrom, not valid", hits, [4]bool{})
		}
	}
	for _, none := range []int64{-1, 4, 259, least, greatest} {
		falls, c := impl.FallsFrom(pieceOf(0, 0, impl.PcCross, 0, 1), none)
		code(t, "FallsFrom, no side", c, impl.ErrRange)
		same(t, "FallsFrom, no side", falls, false)
		hits, c := impl.HitsFrom(pieceOf(0, 0, impl.PcCross, 0, 1), none)
		code(t, "HitsFrom, no side", c, impl.ErrRange)
		same(t, "HitsFrom, no side", hits, [4]bool{})
	}
}

// P2: four quarters, in one or one by one, leave a piece as it was.
func TestTurnPieces(t *testing.T) {
	for kind := range int8(6) {
		for turn := range int8(4) {
			p := pieceOf(2, 3, kind, turn, 4)
			for q := int64(-100); q <= 100; q++ {
				got, c := impl.TurnPiece(p, q)
				want := p
				want.Turn = int8(((int64(turn)+q)%4 + 4) % 4)
				code(t, "TurnPiece", c, impl.OK)
				same(t, "TurnPiece", got, want)
				back, c := impl.TurnPiece(got, -q)
				code(t, "TurnPiece back", c, impl.OK)
				same(t, "TurnPiece back", back, p)
			}
			one := p
			for range 4 {
				one, _ = impl.TurnPiece(one, 1)
			}
			same(t, "four quarters", one, p)
		}
	}
}

func TestTurnPieceErrors(t *testing.T) {
	for _, p := range badPieces() {
		for _, q := range []int64{0, 101} {
			got, c := impl.TurnPiece(p, q)
			code(t, "not valid", c, impl.ErrInvalid)
			same(t, "not valid", got, impl.Piece{})
		}
	}
	for _, q := range []int64{-101, 101, 256, least, greatest} {
		got, c := impl.TurnPiece(pieceOf(1, 1, 1, 1, 1), q)
		code(t, "too many quarters", c, impl.ErrRange)
		same(t, "too many quarters", got, impl.Piece{})
	}
}

// alikeTurns tells for each kind by how many quarters two pieces may differ that do the same.
var alikeTurns = [6][]int8{{0, 2}, {0}, {0}, {0}, {0, 2}, {0, 1, 2, 3}}

func TestAlikePieces(t *testing.T) {
	for kind := range int8(6) {
		for turn := range int8(4) {
			alike := map[int8]bool{}
			for _, q := range alikeTurns[kind] {
				alike[(turn+q)%4] = true
			}
			for other := range int8(6) {
				for q := range int8(4) {
					got, c := impl.AlikePieces(pieceOf(0, 0, kind, turn, 2), pieceOf(5, 6, other, q, 2))
					code(t, "AlikePieces", c, impl.OK)
					same(t, "AlikePieces", []any{kind, turn, other, q, got}, []any{kind, turn, other, q, kind == other && alike[q]})
				}
			}
		}
	}
	got, c := impl.AlikePieces(pieceOf(0, 0, 0, 0, 2), pieceOf(0, 0, 0, 0, 3))
	code(t, "other delay", c, impl.OK)
	same(t, "other delay", got, false)
	good := pieceOf(0, 0, 0, 0, 1)
	for _, p := range badPieces() {
		for _, pair := range [][2]impl.Piece{{p, good}, {good, p}, {p, p}} {
			got, c := impl.AlikePieces(pair[0], pair[1])
			code(t, "not valid", c, impl.ErrInvalid)
			same(t, "not valid", got, false)
		}
	}
}

// The examples at the end of chapter 1.
func TestChapter1Examples(t *testing.T) {
	line := pieceOf(0, 0, impl.PcLine, 0, 1)
	falls, c := impl.FallsFrom(line, impl.SdWest)
	code(t, "line", c, impl.OK)
	same(t, "line falls", falls, true)
	hits, _ := impl.HitsFrom(line, impl.SdWest)
	same(t, "line hits", hits, [4]bool{impl.SdEast: true})
	down, c := impl.TurnPiece(line, 1)
	code(t, "turned line", c, impl.OK)
	falls, _ = impl.FallsFrom(down, impl.SdNorth)
	same(t, "turned line falls", falls, true)
	hits, _ = impl.HitsFrom(down, impl.SdNorth)
	same(t, "turned line hits", hits, [4]bool{impl.SdSouth: true})
	corner, _ := impl.TurnPiece(pieceOf(0, 0, impl.PcCorner, 0, 1), 1)
	hits, _ = impl.HitsFrom(corner, impl.SdNorth)
	same(t, "turned corner hits", hits, [4]bool{false, false, false, true})
	gate := pieceOf(0, 0, impl.PcGate, 0, 1)
	falls, _ = impl.FallsFrom(gate, impl.SdNorth)
	same(t, "gate falls", falls, true)
	hits, _ = impl.HitsFrom(gate, impl.SdNorth)
	same(t, "gate hits", hits, [4]bool{})
	same(t, "text", impl.BoardText(boardOf(2, 1, pieceOf(1, 0, impl.PcLine, 0, 1))), "2 1\n1 0 line 0 1\n")
}
