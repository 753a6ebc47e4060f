package tests

import (
	"slices"
	"testing"

	"loop.example/g01274/impl"
)

func knockOf(after, piece int64, side int8) impl.Knock {
	return impl.Knock{After: after, Piece: piece, Side: side}
}

// lines are so many lines beside each other.
func lines(count int) impl.Board { return rowOf(make([]int8, count)...) }

// partOf is the board with some pieces alone, in the order that is told.
func partOf(b impl.Board, indices []int64) impl.Board {
	part := boardOf(b.Wide, b.High)
	for _, i := range indices {
		part.Pieces = append(part.Pieces, b.Pieces[i])
	}
	return part
}

// countingTo are the numbers from 0 on that are less than count.
func countingTo(count int) []int64 {
	var list []int64
	for i := range count {
		list = append(list, int64(i))
	}
	return list
}

// othersIn are all indices of a board but some.
func othersIn(b impl.Board, but []int64) []int64 {
	return slices.DeleteFunc(countingTo(len(b.Pieces)), func(i int64) bool { return slices.Contains(but, i) })
}

// withFurther is a list with one more, in ascending order.
func withFurther(list []int64, i int64) []int64 {
	return slices.Sorted(slices.Values(append(slices.Clone(list), i)))
}

// withOrder is a board whose pieces stand in another order.
func withOrder(b impl.Board, order []int64) impl.Board { return partOf(b, order) }

// worstByHand tries all pushes, and tells the piece and the side of the one that costs most, and its cost; -1, -1 and 0 if there is none.
func worstByHand(b impl.Board) (int64, int64, int64) {
	piece, side, most := int64(-1), int64(-1), int64(0)
	for i := range int64(len(b.Pieces)) {
		for s := range int64(4) {
			if cost, _ := impl.CountFrom(b, i, s); cost > most {
				piece, side, most = i, s, cost
			}
		}
	}
	return piece, side, most
}

// costWithout is the cost of the worst accident with gaps.
func costWithout(b impl.Board, gaps []int64) int64 {
	_, _, cost := worstByHand(partOf(b, othersIn(b, gaps)))
	return cost
}

// costOf is the cost of the worst accident of some pieces alone.
func costOf(b impl.Board, indices []int64) int64 {
	_, _, cost := worstByHand(partOf(b, indices))
	return cost
}

// someSites are so many boards by chance of at most so many pieces, some of which are full of crosses and forks, and one without pieces.
func someSites(count, most int) []impl.Board {
	all := []impl.Board{boardOf(2, 2)}
	d := dice(700 + most)
	for len(all) < count {
		b := chanceGame(&d).board
		if len(b.Pieces) == 0 || len(b.Pieces) > most {
			continue
		}
		if d.upTo(2) == 0 {
			for i := range b.Pieces {
				b.Pieces[i].Kind = []int8{5, 5, 2, 2, 4, 0}[d.upTo(6)]
			}
		}
		all = append(all, b)
	}
	return all
}

// largeSites are boards of MaxBuilt pieces: all kinds, crosses alone, forks alone, and a long line.
func largeSites() []impl.Board {
	all := []impl.Board{fullBoard(8, 5, 40), fullBoard(8, 5, 40), fullBoard(8, 5, 40), boardOf(24, 2, straightLine(40)...)}
	for i, kind := range []int8{impl.PcCross, impl.PcFork} {
		for j := range all[i+1].Pieces {
			all[i+1].Pieces[j].Kind = kind
		}
	}
	return all
}

// apart are so many pieces none of which hits another one.
func apart(count int) impl.Board {
	b := fullBoard(24, 24, count)
	for i := range b.Pieces {
		b.Pieces[i].At = cell(int8(i%12*2), int8(i/12*2))
	}
	return b
}

// choices are all ascending lists of numbers that are less than count, the shortest ones first, those of the same length in ascending order.
func choices(count, longest int) [][]int64 {
	all := [][]int64{nil}
	for set := range 1 << count {
		var list []int64
		for i := range count {
			if set>>i%2 == 1 {
				list = append(list, int64(i))
			}
		}
		if len(list) > 0 && len(list) <= longest {
			all = append(all, list)
		}
	}
	slices.SortStableFunc(all, func(a, b []int64) int {
		if len(a) != len(b) {
			return len(a) - len(b)
		}
		return slices.Compare(a, b)
	})
	return all
}

// turningFork is a board with a fork whose push comes to a gate from the north, before it comes there from the west; behind the gate are five pieces. Without the piece 3, on the way round, it comes to these.
func turningFork() impl.Board {
	b := boardOf(8, 3,
		pieceOf(0, 2, impl.PcFork, 1, 1), pieceOf(0, 1, impl.PcOneWay, 3, 1), pieceOf(0, 0, impl.PcCorner, 3, 1), pieceOf(1, 0, impl.PcOneWay, 0, 1),
		pieceOf(2, 0, impl.PcCorner, 0, 1), pieceOf(2, 1, impl.PcOneWay, 1, 1), pieceOf(1, 2, impl.PcOneWay, 0, 9), pieceOf(2, 2, impl.PcGate, 0, 1))
	for x := int8(3); x < 8; x++ {
		b.Pieces = append(b.Pieces, pieceOf(x, 2, impl.PcOneWay, 0, 1))
	}
	return b
}

// crossedRounds is a board with two forks, each of which has a way to its gate, and one round to the side of this gate, which is quicker; the way of each fork crosses the round of the other one at one of the last two pieces. With both of these neither push comes through its gate, with one of them alone a push does. Rows of long pieces lead to each fork, and away from each gate.
func crossedRounds(long int8) impl.Board {
	b := boardOf(4, 4+2*long)
	put := func(x, y, kind, turn, delay int8) { b.Pieces = append(b.Pieces, pieceOf(x, long+y, kind, turn, delay)) }
	for i := range long {
		put(0, -1-i, impl.PcOneWay, 1, 1)
		put(3, 4+i, impl.PcOneWay, 3, 1)
		put(2, 4+i, impl.PcOneWay, 1, 1)
		put(1, -1-i, impl.PcOneWay, 3, 1)
	}
	put(0, 0, impl.PcFork, 2, 1)
	put(3, 3, impl.PcFork, 0, 1)
	put(1, 0, impl.PcCross, 0, 1)
	put(2, 3, impl.PcCross, 0, 1)
	put(2, 0, impl.PcCorner, 0, 5)
	put(1, 3, impl.PcCorner, 2, 5)
	put(0, 1, impl.PcOneWay, 1, 1)
	put(3, 2, impl.PcOneWay, 3, 1)
	put(0, 2, impl.PcCorner, 2, 1)
	put(3, 1, impl.PcCorner, 0, 1)
	put(2, 2, impl.PcGate, 1, 1)
	put(1, 1, impl.PcGate, 1, 1)
	put(2, 1, impl.PcCross, 0, 1)
	put(1, 2, impl.PcCross, 0, 1)
	return b
}

// badGaps are lists that are no gaps of a board of three pieces, each for one reason.
func badGaps() map[string][]int64 {
	return map[string][]int64{
		"twice":            {1, 1},
		"twice at the end": {0, 2, 2},
		"decreasing":       {1, 0},
		"back at the end":  {0, 2, 1},
		"below":            {-1},
		"below, and all":   {-1, 0, 1, 2},
		"behind the last":  {3},
		"all, and behind":  {0, 1, 2, 3},
		"a byte more":      {256},
		"two words more":   {0, 1 << 32},
		"least":            {least},
		"greatest":         {0, greatest},
		"far too many":     make([]int64, 300000),
	}
}

// badOrders are lists that are no orders of a board of three pieces, each for one reason.
func badOrders() map[string][]int64 {
	return map[string][]int64{
		"none":           nil,
		"too short":      {0, 1},
		"too long":       {0, 1, 2, 3},
		"one more time":  {0, 1, 2, 0},
		"twice":          {0, 1, 0},
		"twice the last": {2, 1, 2},
		"all the same":   {1, 1, 1},
		"below":          {-1, 0, 1},
		"behind":         {1, 2, 3},
		"a byte more":    {0, 1, 258},
		"two words more": {0, 1 << 32, 2},
		"far away":       {least, 1, greatest},
		"far too long":   make([]int64, 300000),
	}
}

// badKnocks are lists that are no knocks for a board of three pieces, each for one reason.
func badKnocks() map[string][]impl.Knock {
	good := knockOf(3, 2, west)
	return map[string][]impl.Knock{
		"after below":   {good, knockOf(-1, 0, west)},
		"after above":   {knockOf(4, 0, west)},
		"far after":     {good, knockOf(1<<32, 0, west)},
		"least after":   {knockOf(least, 0, west), good},
		"piece below":   {good, knockOf(0, -1, west)},
		"piece above":   {knockOf(0, 3, west)},
		"far piece":     {good, knockOf(0, 1<<32, west)},
		"largest piece": {knockOf(0, greatest, west)},
		"side below":    {knockOf(0, 0, -1)},
		"side above":    {good, good, knockOf(0, 0, 4)},
		"least side":    {knockOf(0, 0, -128)},
		"too many":      slices.Repeat([]impl.Knock{good}, 61),
		"far too many":  slices.Repeat([]impl.Knock{good}, 100000),
		// It would never happen, as what comes before it leaves all standing.
		"behind the end": {knockOf(3, 0, north), knockOf(2, 0, west), knockOf(0, 0, 7)},
	}
}

// numberIs fails the test if a number, with its code OK, is not the one that is wanted.
func numberIs(t *testing.T, name string, got, gotCode, want int64) {
	t.Helper()
	code(t, name, gotCode, impl.OK)
	same(t, name, got, want)
}
