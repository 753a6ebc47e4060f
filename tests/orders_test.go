package tests

import (
	"slices"
	"testing"

	"loop.example/g01274/impl"
)

// worstsAre fails the test if the worst accidents while one builds, or the greatest of them, cost something else.
func worstsAre(t *testing.T, name string, b impl.Board, order []int64, want ...int64) {
	t.Helper()
	worsts, c := impl.WorstsOf(b, order)
	listIs(t, name, worsts, c, want...)
	peak, c := impl.PeakOf(b, order)
	numberIs(t, name, peak, c, slices.Max(append(want, 0)))
}

func TestWorstsOf(t *testing.T) {
	worstsAre(t, "from one end", lines(5), []int64{0, 1, 2, 3, 4}, 1, 2, 3, 4, 5)
	worstsAre(t, "from the other end", lines(5), []int64{4, 3, 2, 1, 0}, 1, 2, 3, 4, 5)
	worstsAre(t, "every other one first", lines(5), []int64{0, 2, 4, 1, 3}, 1, 1, 1, 3, 5)
	worstsAre(t, "the first and the last one first", lines(5), []int64{4, 0, 1, 3, 2}, 1, 1, 2, 2, 5)
	worstsAre(t, "none hits another one", apart(4), []int64{3, 1, 2, 0}, 1, 1, 1, 1)
	worstsAre(t, "no pieces", boardOf(1, 1), nil)
	worstsAre(t, "one piece", rowOf(impl.PcGate), []int64{0}, 1)
	// Before the piece 3 stands, the push of the fork comes to the pieces behind the gate: the greatest cost is not the last one.
	worstsAre(t, "a way round that is closed at last", turningFork(), []int64{0, 1, 2, 4, 5, 6, 7, 8, 9, 10, 11, 12, 3}, 1, 2, 3, 3, 3, 4, 5, 6, 7, 8, 9, 10, 8)
	worstsAre(t, "the most pieces", boardOf(24, 2, straightLine(40)...), countingTo(40), shifted(countingTo(40), 1)...)
}

// shifted are numbers that are greater by some.
func shifted(list []int64, by int64) []int64 {
	var all []int64
	for _, n := range list {
		all = append(all, n+by)
	}
	return all
}

// chanceOrder is an order of so many.
func chanceOrder(d *dice, count int) []int64 {
	var order []int64
	for i := range count {
		order = slices.Insert(order, d.upTo(len(order)+1), int64(i))
	}
	return order
}

func TestWorstsByHand(t *testing.T) {
	d := dice(57)
	for _, b := range append(someSites(80, 20), largeSites()...) {
		order := chanceOrder(&d, len(b.Pieces))
		var want []int64
		for k := range order {
			want = append(want, costOf(b, order[:k+1]))
		}
		worstsAre(t, "by hand", b, order, want...)
		if len(order) > 0 {
			_, _, cost, _ := impl.WorstAccident(b)
			same(t, "the last one is that of the board", want[len(want)-1], cost)
		}
	}
}

// safeIs fails the test if another order, or another peak, is told.
func safeIs(t *testing.T, name string, b impl.Board, wantPeak int64, want ...int64) {
	t.Helper()
	order, peak, c := impl.SafeOrder(b)
	listIs(t, name, order, c, want...)
	same(t, name+", peak", peak, wantPeak)
	told, c := impl.PeakOf(b, order)
	numberIs(t, name, told, c, wantPeak)
}

func TestSafeOrder(t *testing.T) {
	safeIs(t, "a row", lines(5), 5, 0, 2, 4, 1, 3)
	safeIs(t, "two pieces", lines(2), 2, 0, 1)
	safeIs(t, "one piece", rowOf(impl.PcFork), 1, 0)
	safeIs(t, "no pieces", boardOf(3, 3), 0)
	safeIs(t, "none hits another one", apart(7), 1, countingTo(7)...)
	safeIs(t, "the indices decide, not the cells", withOrder(lines(5), []int64{1, 0, 4, 3, 2}), 5, 0, 2, 1, 3, 4)
	safeIs(t, "a longer row", lines(7), 7, 0, 2, 4, 6, 1, 5, 3)
	safeIs(t, "two rows", boardOf(2, 3, pieceOf(0, 0, 0, 0, 1), pieceOf(1, 0, 0, 0, 1), pieceOf(0, 2, 0, 0, 1), pieceOf(1, 2, 0, 0, 1)), 2, 0, 2, 1, 3)
}

// The greatest cost is not always that at the end, whatever order is safe.
func TestPeakBeforeTheEnd(t *testing.T) {
	round := turningFork()
	told, c := impl.PeakOf(round, []int64{0, 1, 2, 4, 5, 6, 7, 8, 9, 10, 11, 12, 3})
	numberIs(t, "a way round, closed at last", told, c, 10)
	told, c = impl.PeakOf(round, []int64{3, 0, 1, 2, 4, 5, 6, 7, 8, 9, 10, 11, 12})
	numberIs(t, "a way round, closed before", told, c, 8)
	for long, want := range map[int8][2]int64{1: {10, 9}, 2: {12, 10}, 4: {16, 12}} {
		b := crossedRounds(long)
		safeIs(t, "each of the last two pieces alone costs more", b, want[0], safeByHand(b)...)
		_, _, cost, c := impl.WorstAccident(b)
		numberIs(t, "both cost less", cost, c, want[1])
	}
}

// safeByHand finds one piece after the other.
func safeByHand(b impl.Board) []int64 {
	var order []int64
	for len(order) < len(b.Pieces) {
		best, least := int64(-1), int64(1000)
		for _, i := range othersIn(b, order) {
			if cost := costOf(b, append(slices.Clone(order), i)); cost < least {
				best, least = i, cost
			}
		}
		order = append(order, best)
	}
	return order
}

func TestSafeOrderByHand(t *testing.T) {
	for _, b := range someSites(100, 14) {
		want := safeByHand(b)
		peak := int64(0)
		for k := range want {
			peak = max(peak, costOf(b, want[:k+1]))
		}
		safeIs(t, "by hand", b, peak, want...)
	}
	for _, b := range largeSites() {
		order, peak, c := impl.SafeOrder(b)
		code(t, "SafeOrder", c, impl.OK)
		same(t, "an order", len(order) == 40 && isOrder(order), true)
		told, c := impl.PeakOf(b, order)
		numberIs(t, "its peak", told, c, peak)
	}
}
