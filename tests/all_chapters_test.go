package tests

import (
	"slices"
	"testing"

	"loop.example/g01274/impl"
)

// laidLine is a board with a line for a way, and the delay of this line.
type laidLine struct {
	board impl.Board
	way   impl.Way
	delay int64
}

// laidLines are boards with lines, some of them slow, of at most MaxBuilt pieces in all.
func laidLines(count int) []laidLine {
	var all []laidLine
	d := dice(180)
	for _, one := range someTasks(2000) {
		cells, c := impl.ShortestCells(one.board, one.way)
		if c != impl.OK || len(all) == count {
			continue
		}
		delay := int64(len(cells) + d.upTo(9*len(cells)+20))
		laid, c := impl.LayWithDelay(one.board, one.way, delay)
		if c == impl.OK && len(laid.Pieces) <= impl.MaxBuilt {
			all = append(all, laidLine{laid, one.way, delay})
		}
	}
	return all
}

// fallsAreProven fails the test if the falls of a game are no proof, or still are one when a piece falls later; it returns them.
func fallsAreProven(t *testing.T, g gameOf) []impl.Fall {
	t.Helper()
	falls, c := impl.RunBoard(g.board, g.pushes)
	code(t, "RunBoard", c, impl.OK)
	proofIs(t, "the falls", g, falls, -1)
	for i, f := range falls {
		wrong := slices.Clone(falls)
		wrong[i].Tick++
		ok, c := impl.CheckFalls(g.board, g.pushes, wrong)
		same(t, "a fall that is later", []any{ok, c}, []any{false, int64(impl.OK)})
		wrong[i] = f
	}
	return falls
}

// P18: falls are a proof, also those of accidents on boards with gaps.
func TestAllFallsAreProofs(t *testing.T) {
	for _, g := range someGames()[:150] {
		fallsAreProven(t, g)
	}
	for k, b := range someSites(60, 40)[1:] {
		gaps, c := impl.GapsByTurns(b, int64(k%4))
		code(t, "GapsByTurns", c, impl.OK)
		less, _ := impl.WithoutPieces(b, gaps)
		for i, p := range less.Pieces {
			side := int8((k + i) % 4)
			falls := fallsAreProven(t, gameOf{less, []impl.Push{{At: p.At, Side: side}}})
			told, c := impl.PushOne(less, int64(i), int64(side))
			listIs(t, "PushOne", told, c, falls...)
		}
	}
}

// P18: a line that is laid carries a push to its end in its delay, and its falls are a proof.
func TestAllLinesCarry(t *testing.T) {
	lines := laidLines(150)
	for _, one := range lines {
		carries(t, "a line", one.board, one.way, one.delay)
		falls := fallsAreProven(t, gameOf{one.board, []impl.Push{{At: one.way.From, Side: one.way.Side}}})
		last := indexIn(one.board, one.way.To)
		same(t, "it falls so long before", falls[last].Tick+int64(one.board.Pieces[last].Delay), one.delay)
	}
	if len(lines) < 150 {
		t.Errorf("only %d lines", len(lines))
	}
}

// noneCostsMore fails the test if an accident with gaps costs more than most, told by chapter 2 alone.
func noneCostsMore(t *testing.T, name string, b impl.Board, gaps []int64, most int64) {
	t.Helper()
	less := partOf(b, othersIn(b, gaps))
	for i := range int64(len(less.Pieces)) {
		for side := range int64(4) {
			if cost, _ := impl.CountFrom(less, i, side); cost > most {
				t.Errorf("%s: with the gaps %v an accident costs %d, more than %d", name, gaps, cost, most)
			}
		}
	}
	does, c := impl.CheckGaps(b, gaps, most)
	same(t, name+", CheckGaps", []any{does, c}, []any{true, int64(impl.OK)})
}

// P18: with gaps that are found no accident costs more than told, however they are found, on boards with lines and on others.
func TestAllGapsDo(t *testing.T) {
	boards := append(someSites(60, 40), largeSites()...)
	for _, one := range laidLines(60) {
		boards = append(boards, one.board)
	}
	found := 0
	for k, b := range boards {
		most := int64(k % 7)
		turns, c := impl.GapsByTurns(b, most)
		code(t, "GapsByTurns", c, impl.OK)
		noneCostsMore(t, "GapsByTurns", b, turns, most)
		fewest, _, c := impl.FewestGaps(b, most, 4, 300)
		if c != impl.OK {
			continue
		}
		found++
		noneCostsMore(t, "FewestGaps", b, fewest, most)
		same(t, "there are no fewer", len(fewest) <= len(turns), true)
		needless, c := impl.NeedlessGap(b, fewest, most)
		numberFails(t, "all of the fewest are needed", needless, c, impl.ErrNotFound)
	}
	if found < 50 {
		t.Errorf("only %d times fewest gaps", found)
	}
}

// P18: while the gaps that are found are left out, no knock costs more than told, whatever has been knocked over before.
func TestKnocksBeforeGapsAreClosed(t *testing.T) {
	boards := append(someSites(60, 40)[1:], largeSites()...)
	for _, one := range laidLines(60) {
		boards = append(boards, one.board)
	}
	d := dice(181)
	happened := 0
	for k, b := range boards {
		most := int64(1 + k%3)
		gaps, c := impl.GapsByTurns(b, most)
		code(t, "GapsByTurns", c, impl.OK)
		// All others stand before the first gap is closed, and the last knock happens then at the latest.
		others := othersIn(b, gaps)
		knocks := []impl.Knock{}
		for range 20 {
			knocks = append(knocks, knockOf(int64(len(others)), int64(d.upTo(len(b.Pieces))), int8(d.upTo(4))))
		}
		lost, c := impl.LostBy(b, slices.Concat(others, gaps), knocks)
		code(t, "LostBy", c, impl.OK)
		same(t, "all knocks happen", len(lost), len(knocks))
		for _, fallen := range lost {
			if fallen > 0 {
				happened++
			}
			if fallen > most {
				t.Errorf("with the gaps %v a knock has made %d fall, more than %d", gaps, fallen, most)
			}
		}
	}
	if happened < 200 {
		t.Errorf("only %d knocks that cost something", happened)
	}
}
