package tests

import (
	"slices"
	"testing"

	"loop.example/g01274/impl"
)

// islandsAre fails the test if other groups of pieces are told.
func islandsAre(t *testing.T, name string, b impl.Board, want ...[]int64) {
	t.Helper()
	islands, c := impl.IslandsOf(b)
	code(t, name, c, impl.OK)
	if !slices.EqualFunc(islands, want, slices.Equal) {
		t.Errorf("%s: got %v, want %v", name, islands, want)
	}
}

func TestIslandsOf(t *testing.T) {
	islandsAre(t, "no pieces", boardOf(3, 3))
	islandsAre(t, "one piece", rowOf(impl.PcCorner), []int64{0})
	islandsAre(t, "a row", lines(5), countingTo(5))
	islandsAre(t, "a gap in the row", boardOf(4, 1, pieceOf(0, 0, 0, 0, 1), pieceOf(1, 0, 0, 0, 1), pieceOf(3, 0, 0, 0, 1)), []int64{0, 1}, []int64{2})
	islandsAre(t, "a line across", boardOf(3, 1, pieceOf(0, 0, 0, 0, 1), pieceOf(1, 0, 0, 1, 1), pieceOf(2, 0, 0, 0, 1)), []int64{0}, []int64{1}, []int64{2})
	islandsAre(t, "joined from the east alone", rowOf(impl.PcLine, impl.PcOneWay), []int64{0, 1})
	islandsAre(t, "joined from the west alone", rowOf(impl.PcOneWay, impl.PcLine), []int64{0, 1})
	islandsAre(t, "back to back", boardOf(2, 1, pieceOf(0, 0, impl.PcOneWay, 2, 1), pieceOf(1, 0, impl.PcOneWay, 0, 1)), []int64{0}, []int64{1})
	islandsAre(t, "towards each other", boardOf(2, 1, pieceOf(0, 0, impl.PcOneWay, 0, 1), pieceOf(1, 0, impl.PcOneWay, 2, 1)), []int64{0}, []int64{1})
	islandsAre(t, "a fork from its end", rowOf(impl.PcOneWay, impl.PcFork), []int64{0, 1})
	islandsAre(t, "hit from where it does not fall", boardOf(2, 1, pieceOf(0, 0, impl.PcLine, 0, 1), pieceOf(1, 0, impl.PcFork, 2, 1)), []int64{0}, []int64{1})
	islandsAre(t, "falls from there, but is not hit", boardOf(1, 2, pieceOf(0, 0, impl.PcGate, 0, 1), pieceOf(0, 1, impl.PcOneWay, 1, 1)), []int64{0}, []int64{1})
	islandsAre(t, "a gate from the side", boardOf(1, 2, pieceOf(0, 0, impl.PcLine, 1, 1), pieceOf(0, 1, impl.PcGate, 0, 1)), []int64{0, 1})
	islandsAre(t, "two gates above each other", boardOf(1, 2, pieceOf(0, 0, impl.PcGate, 0, 1), pieceOf(0, 1, impl.PcGate, 0, 1)), []int64{0}, []int64{1})
	islandsAre(t, "at a corner of the cell", boardOf(2, 2, pieceOf(0, 0, impl.PcCross, 0, 1), pieceOf(1, 1, impl.PcCross, 0, 1)), []int64{0}, []int64{1})
	islandsAre(t, "across the end of a row", boardOf(2, 2, pieceOf(1, 0, impl.PcLine, 0, 1), pieceOf(0, 1, impl.PcLine, 0, 1)), []int64{0}, []int64{1})
	islandsAre(t, "joined by the last one", withOrder(lines(5), []int64{4, 0, 3, 1, 2}), countingTo(5))
	islandsAre(t, "ordered by the first pieces", withOrder(boardOf(5, 1, pieceOf(0, 0, 0, 0, 1), pieceOf(1, 0, 0, 0, 1), pieceOf(3, 0, 0, 0, 1), pieceOf(4, 0, 0, 0, 1)), []int64{2, 1, 0, 3}), []int64{0, 3}, []int64{1, 2})
	islandsAre(t, "one way does not lead round", turningFork(), countingTo(13))
	islandsAre(t, "the most pieces", boardOf(24, 2, straightLine(40)...), countingTo(40))
	var alone [][]int64
	for i := range int64(40) {
		alone = append(alone, []int64{i})
	}
	islandsAre(t, "the most pieces, all alone", apart(40), alone...)
}

// directlyJoined tells whether a piece may hit another one so that it falls.
func directlyJoined(r []reactions, i, j int) bool {
	for side, next := range r[i].near {
		if next != int64(j) || !r[j].falls[(side+2)%4] {
			continue
		}
		for from := range 4 {
			if r[i].hits[from][side] {
				return true
			}
		}
	}
	return false
}

// islandsByHand give all joined pieces the least number of both, again and again.
func islandsByHand(b impl.Board) [][]int64 {
	r := reactionsIn(b)
	numbers := countingTo(len(r))
	for changed := true; changed; {
		changed = false
		for i := range r {
			for j := range r {
				if numbers[i] != numbers[j] && (directlyJoined(r, i, j) || directlyJoined(r, j, i)) {
					numbers[i], changed = min(numbers[i], numbers[j]), true
					numbers[j] = numbers[i]
				}
			}
		}
	}
	var groups [][]int64
	for first := range int64(len(r)) {
		var group []int64
		for i, number := range numbers {
			if number == first {
				group = append(group, int64(i))
			}
		}
		if len(group) > 0 {
			groups = append(groups, group)
		}
	}
	return groups
}

func TestIslandsByHand(t *testing.T) {
	counts := map[int]int{}
	for _, b := range append(someSites(250, 40), largeSites()...) {
		want := islandsByHand(b)
		counts[min(6, len(want))]++
		islandsAre(t, "by hand", b, want...)
	}
	for count := 1; count <= 6; count++ {
		if counts[count] < 10 {
			t.Errorf("only %d times %d islands", counts[count], count)
		}
	}
}

// islandOf tells for each piece the place of its island.
func islandOf(t *testing.T, b impl.Board) []int {
	t.Helper()
	islands, c := impl.IslandsOf(b)
	code(t, "IslandsOf", c, impl.OK)
	places := slices.Repeat([]int{-1}, len(b.Pieces))
	for place, island := range islands {
		for _, i := range island {
			same(t, "in one island alone", places[i], -1)
			places[i] = place
		}
	}
	same(t, "all are in an island", slices.Contains(places, -1), false)
	return places
}

// P15: pieces of different islands never make each other fall, by whatever pushes.
func TestIslandsStandAlone(t *testing.T) {
	d := dice(15)
	fallen := 0
	for _, b := range append(someSites(250, 40)[1:], largeSites()...) {
		places := islandOf(t, b)
		for i := range int64(len(b.Pieces)) {
			falls, _ := impl.PushOne(b, i, int64(d.upTo(4)))
			for j, f := range falls {
				if f != stay && places[j] != places[i] {
					t.Errorf("%d has made %d fall", i, j)
				}
			}
		}
		var list []impl.Push
		for range 1 + d.upTo(12) {
			list = append(list, impl.Push{At: b.Pieces[d.upTo(len(b.Pieces))].At, Side: int8(d.upTo(4)), Tick: int16(d.upTo(4))})
		}
		falls, _ := impl.RunBoard(b, list)
		for i, f := range falls {
			if f == stay {
				continue
			}
			fallen++
			causes, _ := impl.CausesOf(b, list, int64(i))
			for _, j := range causes {
				same(t, "the island of a cause", places[j], places[i])
			}
		}
	}
	if fallen < 1000 {
		t.Errorf("only %d pieces have fallen", fallen)
	}
}

// P15: what falls in an island does not hang on what stands in the others.
func TestIslandsAsBoards(t *testing.T) {
	for _, b := range someSites(120, 40)[1:] {
		islands, _ := impl.IslandsOf(b)
		worst := int64(0)
		for _, island := range islands {
			part := partOf(b, island)
			islandsAre(t, "an island alone", part, countingTo(len(island)))
			for at, i := range island {
				alone, _ := impl.AccidentsOf(part, int64(at))
				cost, c := impl.AccidentsOf(b, i)
				numberIs(t, "as if it were alone", cost, c, alone)
				worst = max(worst, cost)
			}
		}
		_, _, cost, c := impl.WorstAccident(b)
		numberIs(t, "the worst one of all islands", cost, c, worst)
	}
}
