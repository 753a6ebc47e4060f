package tests

import (
	"slices"
	"testing"

	"loop.example/g01274/impl"
)

func TestWithoutPieces(t *testing.T) {
	b := boardOf(3, 2, pieceOf(2, 1, impl.PcGate, 0, 9), pieceOf(0, 0, impl.PcLine, 3, 2), pieceOf(1, 1, impl.PcCross, 1, 1), pieceOf(2, 0, impl.PcFork, 2, 4))
	for _, gaps := range choices(4, 4) {
		less, c := impl.WithoutPieces(b, gaps)
		boardIs(t, "without some", less, c, partOf(b, othersIn(b, gaps)))
	}
	less, c := impl.WithoutPieces(boardOf(3, 3), nil)
	boardIs(t, "no pieces", less, c, boardOf(3, 3))
	most := fullBoard(8, 5, 40)
	less, c = impl.WithoutPieces(most, []int64{0, 17, 39})
	boardIs(t, "the most pieces", less, c, partOf(most, othersIn(most, []int64{0, 17, 39})))
	less, c = impl.WithoutPieces(most, countingTo(40))
	boardIs(t, "none of the most pieces", less, c, boardOf(8, 5))
}

// checked fails the test if gaps do not cost as much as told, or CheckGaps tells otherwise.
func checked(t *testing.T, name string, b impl.Board, gaps []int64, want int64) {
	t.Helper()
	worst, c := impl.WorstWithout(b, gaps)
	numberIs(t, name, worst, c, want)
	for _, most := range []int64{least, -1, 0, want - 1, want, want + 1, greatest} {
		does, c := impl.CheckGaps(b, gaps, most)
		same(t, name, []any{does, c}, []any{want <= most, int64(impl.OK)})
	}
}

func TestWorstWithout(t *testing.T) {
	for i, want := range []int64{4, 3, 2, 3, 4} {
		checked(t, "one gap in a row", lines(5), []int64{int64(i)}, want)
	}
	checked(t, "no gaps", lines(5), nil, 5)
	checked(t, "every other one", lines(5), []int64{1, 3}, 1)
	checked(t, "all pieces", lines(5), countingTo(5), 0)
	checked(t, "all but the last one", lines(5), countingTo(4), 1)
	checked(t, "no pieces", boardOf(1, 1), nil, 0)
	checked(t, "the most pieces", boardOf(24, 2, straightLine(40)...), []int64{13, 27}, 13)
	checked(t, "none of the most pieces", boardOf(24, 2, straightLine(40)...), countingTo(40), 0)
	// The push comes to the gate from the west alone now, and goes on.
	checked(t, "nothing left out of a way round", turningFork(), nil, 8)
	checked(t, "a gap that makes it cost more", turningFork(), []int64{3}, 10)
	checked(t, "a gap in front of the gate", turningFork(), []int64{6}, 7)
	fewer := 0
	d := dice(1)
	for _, b := range someSites(120, 20) {
		for range 4 {
			gaps := slices.DeleteFunc(countingTo(len(b.Pieces)), func(int64) bool { return d.upTo(3) > 0 })
			want := costWithout(b, gaps)
			checked(t, "by hand", b, gaps, want)
			if want < costWithout(b, nil) {
				fewer++
			}
		}
	}
	if fewer < 100 {
		t.Errorf("only %d times gaps help", fewer)
	}
}

// fewestIs fails the test if other gaps, or another number of tries, are told.
func fewestIs(t *testing.T, name string, b impl.Board, most, count, budget, wantTries int64, want ...int64) {
	t.Helper()
	gaps, tries, c := impl.FewestGaps(b, most, count, budget)
	listIs(t, name, gaps, c, want...)
	same(t, name+", tries", tries, wantTries)
}

// fewestFails fails the test if there is no such code, or gaps or tries beside it.
func fewestFails(t *testing.T, name string, b impl.Board, most, count, budget, want int64) {
	t.Helper()
	gaps, tries, c := impl.FewestGaps(b, most, count, budget)
	listFails(t, name, gaps, c, want)
	same(t, name+", tries", tries, int64(0))
}

func TestFewestGaps(t *testing.T) {
	fewestIs(t, "none are needed", lines(5), 5, 4, 300, 1)
	fewestIs(t, "none may be needed", lines(5), 5, 0, 1, 1)
	fewestIs(t, "the first one does", lines(5), 4, 1, 300, 2, 0)
	fewestIs(t, "the second one", lines(5), 3, 1, 300, 3, 1)
	fewestIs(t, "the first one of two that do as well", lines(4), 2, 4, 300, 3, 1)
	fewestIs(t, "two gaps", lines(5), 1, 2, 300, 1+5+6, 1, 3)
	fewestIs(t, "as many as there may be", lines(9), 1, 4, 300, 1+9+36+84+77, 1, 3, 5, 7)
	fewestIs(t, "all pieces", lines(4), 0, 4, 300, 1+4+6+4+1, 0, 1, 2, 3)
	fewestIs(t, "there may be more than there are pieces", apart(2), 0, 4, 300, 1+2+1, 0, 1)
	fewestIs(t, "no pieces", boardOf(1, 1), 0, 4, 300, 1)
	fewestIs(t, "no pieces, and no gaps", boardOf(1, 1), 0, 0, 1, 1)
	fewestIs(t, "the most pieces", boardOf(24, 2, straightLine(40)...), 20, 1, 300, 1+20, 19)
	fewestIs(t, "far more than the worst one", fullBoard(8, 5, 40), greatest, 4, 300, 1)
	fewestIs(t, "a way round: the gap that makes it cost more does not", turningFork(), 7, 1, 300, 2, 0)
	fewestIs(t, "the order is that of the indices", withOrder(lines(5), []int64{4, 2, 0, 1, 3}), 2, 1, 300, 3, 1)
	fewestFails(t, "one less than needed", lines(9), 1, 3, 300, impl.ErrNotFound)
	fewestFails(t, "no gaps, which are too few", lines(5), 4, 0, 300, impl.ErrNotFound)
	fewestFails(t, "too few for all pieces", lines(5), 0, 4, 300, impl.ErrNotFound)
}

func TestFewestGapsBudget(t *testing.T) {
	for budget := int64(0); budget <= 12; budget++ {
		if budget < 12 {
			fewestFails(t, "too few tries", lines(5), 1, 2, budget, impl.ErrBudget)
		} else {
			fewestIs(t, "just as many tries", lines(5), 1, 2, budget, 12, 1, 3)
		}
	}
	fewestFails(t, "no tries", lines(5), 5, 4, 0, impl.ErrBudget)
	fewestFails(t, "no tries, no gaps", lines(5), 5, 0, 0, impl.ErrBudget)
	fewestFails(t, "no tries, no pieces", boardOf(1, 1), 0, 0, 0, impl.ErrBudget)
	fewestIs(t, "one try", boardOf(1, 1), 0, 0, 1, 1)
	// All lists have been tried just when no try is left.
	fewestFails(t, "one try too few for all", lines(9), 2, 2, 1+9+35, impl.ErrBudget)
	fewestFails(t, "as many tries as lists", lines(9), 2, 2, 1+9+36, impl.ErrNotFound)
	fewestFails(t, "one list, one try", lines(9), 2, 0, 1, impl.ErrNotFound)
	fewestFails(t, "all lists of two pieces", withOrder(lines(5), []int64{0, 1}), 0, 1, 3, impl.ErrNotFound)
}

// lastTry is a board of MaxBuilt pieces with a line of 23, of which only the two gaps that are told leave 7, 7 and 7; all others stand alone.
func lastTry(first, second int) impl.Board {
	line, alone := straightLine(23), []impl.Piece{}
	for i := range 17 {
		alone = append(alone, pieceOf(int8(i), int8(2+i%2*2), impl.PcLine, 0, 1))
	}
	middle := slices.Concat(line[:7], line[8:15], line[16:], alone)
	gaps := [2]impl.Piece{line[7], line[15]}
	pieces := slices.Insert(middle, first, gaps[0])
	return boardOf(24, 5, slices.Insert(pieces, second, gaps[1])...)
}

// The try that MaxGapTries still allows, and the one behind it.
func TestMostGapTries(t *testing.T) {
	within, behind := lastTry(7, 14), lastTry(7, 15)
	fewestIs(t, "the last try", within, 7, 2, 300, 300, 7, 14)
	fewestIs(t, "the last try, with more gaps allowed", within, 7, 4, 300, 300, 7, 14)
	fewestFails(t, "the last try, of one less", within, 7, 2, 299, impl.ErrBudget)
	fewestFails(t, "the try behind it", behind, 7, 2, 300, impl.ErrBudget)
	fewestIs(t, "the first list of two", lastTry(0, 1), 7, 2, 42, 42, 0, 1)
	fewestFails(t, "far more lists", fullBoard(8, 5, 40), 0, 4, 300, impl.ErrBudget)
}

func TestFewestGapsRange(t *testing.T) {
	for _, most := range []int64{-1, least, -1 << 32} {
		fewestFails(t, "most", lines(5), most, 2, 100, impl.ErrRange)
		fewestFails(t, "most, no tries", lines(5), most, 0, 0, impl.ErrRange)
		fewestFails(t, "most, no pieces", boardOf(1, 1), most, 0, 1, impl.ErrRange)
	}
	for _, count := range []int64{-1, 5, 256, 1 << 32, least, greatest} {
		fewestFails(t, "count", lines(5), 5, count, 100, impl.ErrRange)
		fewestFails(t, "count, no tries", lines(5), 0, count, 0, impl.ErrRange)
	}
	for _, budget := range []int64{-1, 301, 65536, 1 << 32, least, greatest} {
		fewestFails(t, "budget", lines(5), 5, 4, budget, impl.ErrRange)
		fewestFails(t, "budget, none do", lines(5), 0, 0, budget, impl.ErrRange)
	}
}

// fewestByHand tells the first one of all lists that does, and the number of the try; or the code.
func fewestByHand(b impl.Board, most, count, budget int64) ([]int64, int64, int64) {
	for tried, gaps := range choices(len(b.Pieces), int(count)) {
		if int64(tried) == budget {
			return nil, 0, impl.ErrBudget
		}
		if costWithout(b, gaps) <= most {
			return gaps, int64(tried) + 1, impl.OK
		}
	}
	return nil, 0, impl.ErrNotFound
}

// P16: with the gaps that are found no accident costs more than told, and there are no fewer that do.
func TestFewestGapsByHand(t *testing.T) {
	codes, lengths := map[int64]int{}, map[int]int{}
	d := dice(16)
	for _, b := range someSites(150, 8) {
		most, count := int64(d.upTo(4)), int64(d.upTo(5))
		for _, budget := range []int64{300, int64(d.upTo(10)), int64(d.upTo(100))} {
			want, tries, wantCode := fewestByHand(b, most, count, budget)
			codes[wantCode]++
			if wantCode != impl.OK {
				fewestFails(t, "by hand", b, most, count, budget, wantCode)
				continue
			}
			lengths[len(want)]++
			fewestIs(t, "by hand", b, most, count, budget, tries, want...)
			checked(t, "it does", b, want, costWithout(b, want))
			for _, fewer := range choices(len(b.Pieces), len(want)-1) {
				if len(fewer) < len(want) && costWithout(b, fewer) <= most {
					t.Errorf("%v do, which are fewer than %v", fewer, want)
				}
			}
		}
	}
	for _, c := range []int64{impl.OK, impl.ErrBudget, impl.ErrNotFound} {
		if codes[c] < 30 {
			t.Errorf("only %d times %s", codes[c], impl.CodeName(c))
		}
	}
	for length := range 4 {
		if lengths[length] < 10 {
			t.Errorf("only %d times %d gaps", lengths[length], length)
		}
	}
}

// turnsAre fails the test if other gaps are found one by one.
func turnsAre(t *testing.T, name string, b impl.Board, most int64, want ...int64) {
	t.Helper()
	gaps, c := impl.GapsByTurns(b, most)
	listIs(t, name, gaps, c, want...)
}

func TestGapsByTurns(t *testing.T) {
	turnsAre(t, "none are needed", lines(5), 5)
	turnsAre(t, "the middle leaves the least", lines(5), 3, 2)
	turnsAre(t, "the first one of two that leave as much", lines(4), 3, 1)
	turnsAre(t, "found as 2, 0 and 3", lines(5), 1, 0, 2, 3)
	turnsAre(t, "more than the fewest ones", lines(7), 2, 0, 3, 4)
	fewestIs(t, "more than the fewest ones", lines(7), 2, 2, 300, 1+7+9, 1, 4)
	turnsAre(t, "all pieces", lines(5), 0, countingTo(5)...)
	turnsAre(t, "all pieces, which stand alone", apart(40), 0, countingTo(40)...)
	turnsAre(t, "none of the most pieces", apart(40), 1)
	turnsAre(t, "no pieces", boardOf(2, 2), 0)
	turnsAre(t, "no pieces", boardOf(2, 2), greatest)
	turnsAre(t, "a way round", turningFork(), 7, 0)
	turnsAre(t, "two rows, gaps that do not help at once", boardOf(3, 3, pieceOf(0, 0, 0, 0, 1), pieceOf(1, 0, 0, 0, 1), pieceOf(0, 2, 0, 0, 1), pieceOf(1, 2, 0, 0, 1)), 1, 0, 2)
	for _, most := range []int64{-1, least} {
		for _, b := range []impl.Board{lines(3), boardOf(1, 1)} {
			gaps, c := impl.GapsByTurns(b, most)
			listFails(t, "most", gaps, c, impl.ErrRange)
		}
	}
}

// gapsByHand find one gap after the other.
func gapsByHand(b impl.Board, most int64) []int64 {
	var gaps []int64
	for costWithout(b, gaps) > most {
		best, least := int64(-1), int64(1000)
		for _, i := range othersIn(b, gaps) {
			if cost := costWithout(b, withFurther(gaps, i)); cost < least {
				best, least = i, cost
			}
		}
		gaps = withFurther(gaps, best)
	}
	return gaps
}

// P16, for gaps that are found one by one: no accident costs more than told.
func TestGapsByTurnsByHand(t *testing.T) {
	several := 0
	for k, b := range someSites(150, 14) {
		most := int64([]int{0, 1, 1, 2, 3, 5}[k%6])
		want := gapsByHand(b, most)
		turnsAre(t, "by hand", b, most, want...)
		if len(want) > 1 && len(want) < len(b.Pieces) {
			several++
		}
	}
	if several < 30 {
		t.Errorf("only %d times several gaps", several)
	}
	for _, b := range largeSites() {
		for _, most := range []int64{0, 1, 3, 8, 39} {
			gaps, c := impl.GapsByTurns(b, most)
			code(t, "GapsByTurns", c, impl.OK)
			same(t, "strictly increasing", slices.Equal(gaps, slices.Compact(slices.Sorted(slices.Values(gaps)))), true)
			if cost := costWithout(b, gaps); cost > most {
				t.Errorf("with %v an accident costs %d, more than %d", gaps, cost, most)
			}
		}
	}
}

// needlessIs fails the test if another gap is told to be needless.
func needlessIs(t *testing.T, name string, b impl.Board, gaps []int64, most, want int64) {
	t.Helper()
	gap, c := impl.NeedlessGap(b, gaps, most)
	numberIs(t, name, gap, c, want)
}

func TestNeedlessGap(t *testing.T) {
	needlessIs(t, "the first one", lines(5), []int64{0, 2}, 2, 0)
	needlessIs(t, "the second one, told by its index", lines(5), []int64{2, 4}, 2, 4)
	needlessIs(t, "the first one of several", lines(5), []int64{1, 2, 3}, 2, 1)
	needlessIs(t, "the one in the middle", lines(7), []int64{1, 3, 5}, 3, 1)
	needlessIs(t, "the one that stands between others", lines(5), []int64{1, 2, 3}, 1, 2)
	needlessIs(t, "all pieces, and one may cost something", lines(3), countingTo(3), 1, 0)
	needlessIs(t, "each one, if all may cost anything", lines(3), []int64{2}, greatest, 2)
	needlessIs(t, "of the most pieces", apart(40), []int64{7, 39}, 1, 7)
	for _, one := range []struct {
		name  string
		board impl.Board
		gaps  []int64
		most  int64
		want  int64
	}{
		{"all are needed", lines(5), []int64{1, 3}, 1, impl.ErrNotFound},
		{"the only one is needed", lines(5), []int64{2}, 2, impl.ErrNotFound},
		{"all pieces are needed", lines(3), countingTo(3), 0, impl.ErrNotFound},
		{"no gaps, and they do", lines(3), nil, 3, impl.ErrNotFound},
		{"no gaps, no pieces", boardOf(1, 1), nil, 0, impl.ErrNotFound},
		{"they do not", lines(5), []int64{0, 1}, 2, impl.ErrState},
		{"no gaps, and they do not", lines(3), nil, 2, impl.ErrState},
		{"nothing may cost anything", lines(3), []int64{0, 1}, 0, impl.ErrState},
		{"less than nothing", lines(3), countingTo(3), -1, impl.ErrState},
		{"far less than nothing", boardOf(1, 1), nil, least, impl.ErrState},
		{"a gap that makes it cost more", turningFork(), []int64{3}, 9, impl.ErrState},
	} {
		gap, c := impl.NeedlessGap(one.board, one.gaps, one.most)
		numberFails(t, one.name, gap, c, one.want)
	}
	needlessIs(t, "a gap that makes it cost more", turningFork(), []int64{3}, 10, 3)
}

func TestNeedlessGapByHand(t *testing.T) {
	codes := map[int64]int{}
	d := dice(99)
	for _, b := range someSites(200, 12) {
		for range 4 {
			most := int64(d.upTo(5))
			gaps := gapsByHand(b, most)
			switch d.upTo(4) {
			case 0:
				gaps = gaps[:d.upTo(len(gaps)+1)]
			case 1:
				if rest := othersIn(b, gaps); len(rest) > 0 {
					gaps = withFurther(gaps, rest[d.upTo(len(rest))])
				}
			}
			want, wantCode := needlessByHand(b, gaps, most)
			codes[wantCode]++
			gap, c := impl.NeedlessGap(b, gaps, most)
			same(t, "by hand", []int64{gap, c}, []int64{want, wantCode})
		}
	}
	for _, c := range []int64{impl.OK, impl.ErrState, impl.ErrNotFound} {
		if codes[c] < 30 {
			t.Errorf("only %d times %s", codes[c], impl.CodeName(c))
		}
	}
}

func needlessByHand(b impl.Board, gaps []int64, most int64) (int64, int64) {
	if costWithout(b, gaps) > most {
		return 0, impl.ErrState
	}
	for at, gap := range gaps {
		if costWithout(b, slices.Delete(slices.Clone(gaps), at, at+1)) <= most {
			return gap, impl.OK
		}
	}
	return 0, impl.ErrNotFound
}
