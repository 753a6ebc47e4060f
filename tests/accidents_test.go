package tests

import (
	"slices"
	"testing"

	"loop.example/g01274/impl"
)

// The examples at the end of chapter 7.
func TestChapter7Examples(t *testing.T) {
	b := lines(5)
	for i := range int64(5) {
		cost, c := impl.CountFrom(b, i, west)
		numberIs(t, "an accident", cost, c, 5-i)
	}
	worstIs(t, "a row", b, 0, west, 5)
	cost, c := impl.WorstWithout(b, []int64{2})
	numberIs(t, "the third one as a gap", cost, c, 2)
	fewestIs(t, "the fewest gaps", b, 2, 2, impl.MaxGapTries, 4, 2)
	order, peak, c := impl.SafeOrder(b)
	listIs(t, "SafeOrder", order, c, 0, 2, 4, 1, 3)
	same(t, "its peak", peak, int64(5))
	setUp, happened, c := impl.SetUp(b, countingTo(5), []impl.Knock{knockOf(3, 0, west)})
	same(t, "SetUp", []int64{setUp, happened, c}, []int64{8, 1, impl.OK})
}

// worstIs fails the test if another accident is told to cost most.
func worstIs(t *testing.T, name string, b impl.Board, wantPiece, wantSide, wantCost int64) {
	t.Helper()
	piece, side, cost, c := impl.WorstAccident(b)
	same(t, name, []int64{piece, side, cost, c}, []int64{wantPiece, wantSide, wantCost, impl.OK})
}

// accidentsAre fails the test if the accidents that begin with each piece cost something else.
func accidentsAre(t *testing.T, name string, b impl.Board, want ...int64) {
	t.Helper()
	var costs []int64
	for i := range want {
		cost, c := impl.AccidentsOf(b, int64(i))
		code(t, name, c, impl.OK)
		costs = append(costs, cost)
	}
	same(t, name, costs, want)
}

func TestAccidentsOf(t *testing.T) {
	accidentsAre(t, "a row", lines(5), 5, 4, 3, 4, 5)
	accidentsAre(t, "one piece", rowOf(impl.PcFork), 1)
	accidentsAre(t, "one way through", rowOf(impl.PcLine, impl.PcOneWay, impl.PcLine, impl.PcLine), 4, 3, 2, 2)
	accidentsAre(t, "a gate in the middle", rowOf(impl.PcLine, impl.PcGate, impl.PcLine), 3, 2, 3)
	accidentsAre(t, "a fork between two lines", boardOf(2, 3, pieceOf(1, 1, impl.PcFork, 0, 1), pieceOf(1, 2, impl.PcLine, 1, 1), pieceOf(0, 1, impl.PcLine, 0, 1)), 3, 3, 3)
	accidentsAre(t, "a way round, and the gate", turningFork(), 8, 6, 5, 4, 3, 2, 7, 6, 5, 4, 3, 2, 1)
	accidentsAre(t, "slow pieces cost as much", boardOf(2, 1, pieceOf(0, 0, impl.PcLine, 0, 9), pieceOf(1, 0, impl.PcLine, 0, 9)), 2, 2)
}

func TestWorstAccident(t *testing.T) {
	for kind, side := range []int64{east, south, north, west, north, north} {
		worstIs(t, "one piece, the first side from which it falls", rowOf(int8(kind)), 0, side, 1)
	}
	worstIs(t, "from both ends, the first one", lines(4), 0, west, 4)
	worstIs(t, "the first one of the list, wherever it is", withOrder(lines(4), []int64{3, 2, 1, 0}), 0, east, 4)
	worstIs(t, "the first one of the list in the middle", withOrder(lines(4), []int64{2, 1, 3, 0}), 2, east, 4)
	worstIs(t, "two rows, the lesser side comes behind the lesser piece", boardOf(3, 3, pieceOf(0, 0, 0, 0, 1), pieceOf(1, 0, 0, 0, 1), pieceOf(0, 2, 3, 2, 1), pieceOf(1, 2, 3, 2, 1)), 0, west, 2)
	worstIs(t, "a corner between two lines, the lesser one of these", boardOf(2, 2, pieceOf(1, 0, impl.PcCorner, 0, 1), pieceOf(0, 0, impl.PcLine, 0, 1), pieceOf(1, 1, impl.PcLine, 1, 1)), 1, west, 3)
	worstIs(t, "two sides of one piece", boardOf(3, 3, pieceOf(1, 1, impl.PcCross, 0, 1), pieceOf(2, 1, impl.PcOneWay, 0, 1), pieceOf(1, 2, impl.PcOneWay, 1, 1)), 0, north, 2)
	worstIs(t, "a piece in the middle", rowOf(impl.PcLine, impl.PcCorner, impl.PcLine, impl.PcOneWay, impl.PcLine, impl.PcLine, impl.PcLine), 2, west, 5)
	worstIs(t, "a way round", turningFork(), 0, north, 8)
	worstIs(t, "the most pieces", boardOf(24, 2, straightLine(40)...), 0, west, 40)
	worstIs(t, "the most pieces, all alone", apart(40), 0, east, 1)
	for _, b := range []impl.Board{boardOf(1, 1), boardOf(24, 24)} {
		piece, side, cost, c := impl.WorstAccident(b)
		same(t, "no pieces", []int64{piece, side, cost, c}, []int64{0, 0, 0, impl.ErrNotFound})
	}
}

// Accidents by a playing-out of chapter 2, tick by tick.
func TestAccidentsPlayedOut(t *testing.T) {
	for _, b := range someSites(60, 9)[1:] {
		worst := int64(0)
		for i, p := range b.Pieces {
			own := int64(0)
			for side := range int8(4) {
				falls := playedOut(gameOf{b, []impl.Push{{At: p.At, Side: side}}})
				fallen := slices.DeleteFunc(falls, func(f impl.Fall) bool { return f == stay })
				own = max(own, int64(len(fallen)))
			}
			cost, c := impl.AccidentsOf(b, int64(i))
			numberIs(t, "played out", cost, c, own)
			worst = max(worst, own)
		}
		_, _, cost, c := impl.WorstAccident(b)
		numberIs(t, "played out", cost, c, worst)
	}
}

// P15: no accident costs more than the worst one, which is the first one that costs as much.
func TestNoAccidentCostsMore(t *testing.T) {
	several := 0
	for _, b := range append(someSites(250, 40)[1:], largeSites()...) {
		piece, side, cost, c := impl.WorstAccident(b)
		code(t, "WorstAccident", c, impl.OK)
		as := 0
		for i := range int64(len(b.Pieces)) {
			own := int64(0)
			for s := range int64(4) {
				fallen, _ := impl.CountFrom(b, i, s)
				own = max(own, fallen)
				if fallen == cost {
					as++
				}
				if fallen > cost || fallen == cost && (i < piece || i == piece && s < side) {
					t.Errorf("%d from %d costs %d, but %d from %d is told to cost most, %d", i, s, fallen, piece, side, cost)
				}
			}
			greatest, c := impl.AccidentsOf(b, i)
			numberIs(t, "AccidentsOf", greatest, c, own)
		}
		told, _ := impl.CountFrom(b, piece, side)
		same(t, "what it costs", told, cost)
		if as > 1 {
			several++
		}
	}
	if several < 100 {
		t.Errorf("only %d boards with several accidents that cost most", several)
	}
}
