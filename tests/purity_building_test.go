package tests

import (
	"slices"
	"strings"
	"sync"
	"testing"

	"loop.example/g01274/impl"
)

// rawChapter7 calls every function of the chapter with a code, and returns the results of each call, the code at last.
func rawChapter7(a buildingArgs) [][]any {
	var all [][]any
	two := func(result any, code int64) { all = append(all, []any{result, code}) }
	two(impl.AccidentsOf(a.board, a.i))
	piece, side, cost, code := impl.WorstAccident(a.board)
	all = append(all, []any{piece, side, cost, code})
	two(impl.WithoutPieces(a.board, a.gaps))
	two(impl.WorstWithout(a.board, a.gaps))
	two(impl.CheckGaps(a.board, a.gaps, a.most))
	gaps, tries, code := impl.FewestGaps(a.board, a.most, a.count, a.budget)
	all = append(all, []any{gaps, tries, code})
	two(impl.GapsByTurns(a.board, a.most))
	two(impl.NeedlessGap(a.board, a.gaps, a.most))
	two(impl.IslandsOf(a.board))
	two(impl.WorstsOf(a.board, a.order))
	two(impl.PeakOf(a.board, a.order))
	order, peak, code := impl.SafeOrder(a.board)
	all = append(all, []any{order, peak, code})
	setUp, happened, code := impl.SetUp(a.board, a.order, a.knocks)
	all = append(all, []any{setUp, happened, code})
	two(impl.LostBy(a.board, a.order, a.knocks))
	two(impl.ReadKnocks(impl.KnocksText(a.knocks)))
	two(impl.ReadKnocks(a.text))
	return all
}

// chapter7 calls every function of the chapter, nil lists being made empty.
func chapter7(a buildingArgs) [][]any {
	return append(evened(rawChapter7(a)), []any{impl.KnocksText(a.knocks), int64(impl.OK)})
}

var someKnocksTexts = []string{"3 0 west\n", "", "40 39 north\n0 0 south\n", "41 0 west\n", "3 0 west", "a"}

// buildingArgsOf are arguments for a board, most of them in range.
func buildingArgsOf(d *dice, b impl.Board) buildingArgs {
	count := min(60, len(b.Pieces))
	a := buildingArgs{board: b, order: chanceOrder(d, count), i: int64(d.upTo(count+3) - 1), most: int64(d.upTo(6) - 1), count: int64(d.upTo(5)), budget: int64(d.upTo(60)), text: someKnocksTexts[d.upTo(len(someKnocksTexts))]}
	for i := range int64(count) {
		if d.upTo(3) == 0 {
			a.gaps = append(a.gaps, i)
		}
	}
	if count > 0 {
		a.knocks = chanceKnocks(d, d.upTo(12), count)
	}
	return a
}

// variedBuilding are valid ones and invalid ones.
func variedBuilding() []buildingArgs {
	var all []buildingArgs
	d := dice(70)
	boards := append(someSites(40, 12), boardOf(1, 1), turningFork(), apart(40), fullBoard(8, 6, 41), lines(5))
	for _, b := range badBoards() {
		boards = append(boards, b)
	}
	for _, b := range boards {
		all = append(all, buildingArgsOf(&d, b))
	}
	add := func(change func(*buildingArgs)) {
		a := goodArgs(lines(3))
		change(&a)
		all = append(all, a)
	}
	for _, gaps := range badGaps() {
		add(func(a *buildingArgs) { a.gaps = gaps[:min(5, len(gaps))] })
	}
	for _, order := range badOrders() {
		add(func(a *buildingArgs) { a.order = order[:min(5, len(order))] })
	}
	for _, knocks := range badKnocks() {
		add(func(a *buildingArgs) { a.knocks = knocks[:min(61, len(knocks))] })
	}
	for _, gaps := range [][]int64{nil, {0}, {1}, {0, 2}} {
		add(func(a *buildingArgs) { a.gaps, a.most, a.budget = gaps, int64(len(gaps)), 300 })
	}
	return all
}

// roomyBuilding are the arguments with room behind their lists, and a function that copies the whole of these.
func roomyBuilding(a buildingArgs) (buildingArgs, func() []any) {
	board, pieces := roomy(a.board)
	gaps, allGaps := withRoom(a.gaps, 77)
	order, wholeOrder := withRoom(a.order, 77)
	knocks, allKnocks := withRoom(a.knocks, knockOf(77, 77, 77))
	a.board, a.gaps, a.order, a.knocks = board, gaps, order, knocks
	return a, func() []any {
		return []any{slices.Clone(pieces), slices.Clone(allGaps), slices.Clone(wholeOrder), slices.Clone(allKnocks)}
	}
}

// P1: no function modifies an argument, nor the unused capacity of one, and equal arguments give equal results.
func TestChapter7Purity(t *testing.T) {
	for _, a := range variedBuilding() {
		used, lists := roomyBuilding(a)
		kept := lists()
		one := chapter7(used)
		same(t, "arguments", lists(), kept)
		same(t, "equal arguments", chapter7(a), one)
		same(t, "again", chapter7(used), one)
	}
}

// overwriteBuilding fills a list of knocks or islands, or that of a board, with other values.
func overwriteBuilding(result any) {
	switch list := result.(type) {
	case []impl.Knock:
		clear(list[:cap(list)])
	case [][]int64:
		clear(list[:cap(list)])
	default:
		overwriteTiming(result)
	}
}

// P1: results share no memory with arguments, nor with what other calls return.
func TestChapter7Sharing(t *testing.T) {
	for _, a := range variedBuilding() {
		used, lists := roomyBuilding(a)
		kept := lists()
		before := chapter7(used)
		for range 2 {
			for _, results := range rawChapter7(used) {
				for _, result := range results {
					overwriteBuilding(result)
					same(t, "the arguments", lists(), kept)
				}
			}
		}
		same(t, "nothing is kept", chapter7(used), before)
	}
}

// P1: islands share no memory with each other, not even where there is room behind one.
func TestIslandsShareNothing(t *testing.T) {
	for _, b := range append(someSites(60, 40), apart(40), lines(5)) {
		islands, _ := impl.IslandsOf(b)
		want := islandsByHand(b)
		for i, island := range islands {
			for j := range island[:cap(island)] {
				island[:cap(island)][j] = -7
			}
			for k, other := range islands[i+1:] {
				same(t, "the others", other, want[i+1+k])
			}
		}
	}
}

// A board of which nothing is left out, and gaps that are found at once, are new all the same.
func TestBuildingResultsAreNew(t *testing.T) {
	b := lines(3)
	for _, gaps := range [][]int64{nil, {}} {
		less, _ := impl.WithoutPieces(b, gaps)
		overwriteBuilding(less)
		same(t, "the board", b, lines(3))
	}
	order := []int64{2, 0, 1}
	worsts, _ := impl.WorstsOf(b, order)
	overwriteBuilding(worsts)
	lost, _ := impl.LostBy(b, order, []impl.Knock{knockOf(3, 0, west)})
	overwriteBuilding(lost)
	same(t, "the order", order, []int64{2, 0, 1})
}

// P1: nil lists do the same as empty ones.
func TestChapter7NilAndEmpty(t *testing.T) {
	for _, b := range []impl.Board{{}, boardOf(1, 1), boardOf(3, 2), lines(2)} {
		nils := buildingArgs{board: b, count: 2, budget: 9}
		empty := buildingArgs{board: evenBoard(b), gaps: []int64{}, order: []int64{}, knocks: []impl.Knock{}, count: 2, budget: 9}
		same(t, "nil and empty", chapter7(nils), chapter7(empty))
	}
}

// P1: every function returns for all arguments, however large or wrong they are.
func TestChapter7Totality(t *testing.T) {
	boards := []impl.Board{{}, boardOf(-128, 127), boardOf(24, 24), fullBoard(20, 10, 200), fullBoard(24, 24, 201),
		{Wide: 24, High: 24, Pieces: make([]impl.Piece, 300000)}, boardOf(2, 2, pieceOf(-128, -128, -128, -128, -128)), lines(3)}
	lists := [][]int64{nil, {0}, countingTo(40), countingTo(3), make([]int64, 300000), {least, greatest}, {greatest}, {-1, 0}}
	knocks := [][]impl.Knock{nil, slices.Repeat([]impl.Knock{knockOf(40, 0, west)}, 60), make([]impl.Knock, 200000), {knockOf(least, greatest, -128)}, {knockOf(greatest, least, 127)}, {knockOf(0, 0, 0)}}
	texts := append(slices.Clone(someKnocksTexts), strings.Repeat(" ", 1000000), strings.Repeat("1 1 west\n", 100000), strings.Repeat("\x00", 300))
	numbers := []int64{least, least + 1, -1, 0, 1, 2, 4, 5, 39, 40, 41, 300, 301, 1 << 32, greatest}
	k := 0
	for _, b := range boards {
		for _, gaps := range lists {
			for _, order := range lists {
				k++
				at := func(step int) int64 { return numbers[k/step%len(numbers)] }
				chapter7(buildingArgs{b, gaps, order, knocks[k%len(knocks)], at(1), at(2), at(3), at(5), texts[k%len(texts)]})
			}
		}
	}
	for _, b := range largeSites() {
		chapter7(buildingArgs{board: b, order: countingTo(40), knocks: knocks[1], most: 0, count: 4, budget: 300})
	}
}

// P1: with a code other than OK all other results are zero values.
func TestChapter7ZeroResults(t *testing.T) {
	codes := map[int64]int{}
	for _, a := range variedBuilding() {
		for _, results := range rawChapter7(a) {
			codes[zeroBeside(t, results)]++
		}
	}
	for c, least := range map[int64]int{impl.ErrInvalid: 100, impl.ErrRange: 30, impl.ErrLimit: 10, impl.ErrState: 10, impl.ErrSyntax: 10, impl.ErrNotFound: 10, impl.ErrBudget: 3} {
		if codes[c] < least {
			t.Errorf("only %d times %s", codes[c], impl.CodeName(c))
		}
	}
}

// P1: whoever else asks at the same time, and however goroutines come first, the answer is the same.
func TestChapter7AtTheSameTime(t *testing.T) {
	d := dice(71)
	for _, b := range []impl.Board{largeSites()[1], turningFork()} {
		a := buildingArgsOf(&d, b)
		want := chapter7(a)
		var group sync.WaitGroup
		for range 8 {
			group.Go(func() { same(t, "again", chapter7(a), want) })
		}
		group.Wait()
	}
}
