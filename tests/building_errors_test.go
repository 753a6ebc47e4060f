package tests

import (
	"slices"
	"testing"

	"loop.example/g01274/impl"
)

// buildingArgs are arguments for the functions of chapter 7.
type buildingArgs struct {
	board  impl.Board
	gaps   []int64
	order  []int64
	knocks []impl.Knock
	i      int64
	most   int64
	count  int64
	budget int64
	text   string
}

// buildingCall is a call of a function of chapter 7 with a board.
type buildingCall struct {
	name  string
	takes struct{ gaps, order, knocks bool }
	call  func(a buildingArgs) ([]any, int64)
}

// buildingCalls are the functions with a board; their results are told as numbers of what is in them.
func buildingCalls() []buildingCall {
	type takes = struct{ gaps, order, knocks bool }
	listed := func(list []int64, c int64) ([]any, int64) { return []any{len(list)}, c }
	one := func(number, c int64) ([]any, int64) { return []any{int(number)}, c }
	return []buildingCall{
		{"AccidentsOf", takes{}, func(a buildingArgs) ([]any, int64) { return one(impl.AccidentsOf(a.board, a.i)) }},
		{"WorstAccident", takes{}, func(a buildingArgs) ([]any, int64) {
			piece, side, cost, c := impl.WorstAccident(a.board)
			return []any{int(piece), int(side), int(cost)}, c
		}},
		{"WithoutPieces", takes{gaps: true}, func(a buildingArgs) ([]any, int64) {
			b, c := impl.WithoutPieces(a.board, a.gaps)
			return []any{int(b.Wide), int(b.High), len(b.Pieces)}, c
		}},
		{"WorstWithout", takes{gaps: true}, func(a buildingArgs) ([]any, int64) { return one(impl.WorstWithout(a.board, a.gaps)) }},
		{"CheckGaps", takes{gaps: true}, func(a buildingArgs) ([]any, int64) {
			does, c := impl.CheckGaps(a.board, a.gaps, a.most)
			if does {
				return []any{1}, c
			}
			return []any{0}, c
		}},
		{"FewestGaps", takes{}, func(a buildingArgs) ([]any, int64) {
			gaps, tries, c := impl.FewestGaps(a.board, a.most, a.count, a.budget)
			return []any{len(gaps), int(tries)}, c
		}},
		{"GapsByTurns", takes{}, func(a buildingArgs) ([]any, int64) { return listed(impl.GapsByTurns(a.board, a.most)) }},
		{"NeedlessGap", takes{gaps: true}, func(a buildingArgs) ([]any, int64) { return one(impl.NeedlessGap(a.board, a.gaps, a.most)) }},
		{"IslandsOf", takes{}, func(a buildingArgs) ([]any, int64) {
			islands, c := impl.IslandsOf(a.board)
			return []any{len(islands)}, c
		}},
		{"WorstsOf", takes{order: true}, func(a buildingArgs) ([]any, int64) { return listed(impl.WorstsOf(a.board, a.order)) }},
		{"PeakOf", takes{order: true}, func(a buildingArgs) ([]any, int64) { return one(impl.PeakOf(a.board, a.order)) }},
		{"SafeOrder", takes{}, func(a buildingArgs) ([]any, int64) {
			order, peak, c := impl.SafeOrder(a.board)
			return []any{len(order), int(peak)}, c
		}},
		{"SetUp", takes{order: true, knocks: true}, func(a buildingArgs) ([]any, int64) {
			setUp, happened, c := impl.SetUp(a.board, a.order, a.knocks)
			return []any{int(setUp), int(happened)}, c
		}},
		{"LostBy", takes{order: true, knocks: true}, func(a buildingArgs) ([]any, int64) { return listed(impl.LostBy(a.board, a.order, a.knocks)) }},
	}
}

// buildingFails fails the test if a call gives another code, or a result beside it.
func buildingFails(t *testing.T, name string, one buildingCall, a buildingArgs, want int64) {
	t.Helper()
	results, c := one.call(a)
	code(t, one.name+", "+name, c, want)
	for _, result := range results {
		same(t, one.name+", "+name, result, 0)
	}
}

// goodArgs are arguments with which nothing is wrong, for any board with pieces.
func goodArgs(b impl.Board) buildingArgs {
	count := len(b.Pieces)
	return buildingArgs{board: b, gaps: countingTo(count), order: countingTo(count), knocks: []impl.Knock{knockOf(1, 0, west)}, most: 1, count: 2, budget: 1}
}

// wrongArgs are arguments with which all is wrong but the board.
func wrongArgs(b impl.Board) buildingArgs {
	return buildingArgs{board: b, gaps: []int64{1, 1}, order: []int64{0, 0}, knocks: []impl.Knock{knockOf(-1, -1, -1)}, i: -1, most: -1, count: 5, budget: 301}
}

// ErrInvalid comes first, whatever else is wrong.
func TestInvalidSites(t *testing.T) {
	for _, one := range buildingCalls() {
		for name, b := range badBoards() {
			buildingFails(t, name, one, goodArgs(b), impl.ErrInvalid)
			buildingFails(t, name+", and all else", one, wrongArgs(b), impl.ErrInvalid)
			buildingFails(t, name+", and nothing else told", one, buildingArgs{board: b}, impl.ErrInvalid)
		}
		twice := fullBoard(8, 6, 48)
		twice.Pieces[47].At = cell(0, 0)
		buildingFails(t, "too many pieces, two of them in a cell", one, goodArgs(twice), impl.ErrInvalid)
	}
}

// ErrLimit comes behind ErrInvalid, and before all others; MaxBuilt pieces are not too many.
func TestTooManyBuilt(t *testing.T) {
	for _, one := range buildingCalls() {
		for _, count := range []int{41, 42, 64, 200} {
			b := fullBoard(20, 10, count)
			buildingFails(t, "too many", one, goodArgs(b), impl.ErrLimit)
			buildingFails(t, "too many, and all else is wrong", one, wrongArgs(b), impl.ErrLimit)
			buildingFails(t, "too many, and nothing else told", one, buildingArgs{board: b}, impl.ErrLimit)
		}
		a := goodArgs(apart(40))
		a.gaps = []int64{0}
		_, c := one.call(a)
		code(t, one.name+", as many as can be", c, impl.OK)
		if one.takes.gaps || one.takes.order {
			buildingFails(t, "as many as can be, and all else is wrong", one, wrongArgs(apart(40)), impl.ErrRange)
		}
	}
}

// ErrRange comes before ErrState and ErrNotFound, for gaps, orders and knocks.
func TestBuildingNotInRange(t *testing.T) {
	for _, one := range buildingCalls() {
		for name, gaps := range badGaps() {
			for _, most := range []int64{3, 0, -1, least} {
				a := goodArgs(lines(3))
				a.gaps, a.most = gaps, most
				if one.takes.gaps {
					buildingFails(t, name, one, a, impl.ErrRange)
				}
			}
		}
		for name, order := range badOrders() {
			a := goodArgs(lines(3))
			a.order = order
			if one.takes.order {
				buildingFails(t, name, one, a, impl.ErrRange)
				a.knocks = nil
				buildingFails(t, name+", no knocks", one, a, impl.ErrRange)
			}
		}
		for name, knocks := range badKnocks() {
			a := goodArgs(lines(3))
			a.knocks = knocks
			if one.takes.knocks {
				buildingFails(t, name, one, a, impl.ErrRange)
			}
		}
		if one.takes.gaps {
			buildingFails(t, "a gap, and no pieces", one, buildingArgs{board: boardOf(1, 1), gaps: []int64{0}}, impl.ErrRange)
		}
		if one.takes.order {
			buildingFails(t, "an order, and no pieces", one, buildingArgs{board: boardOf(1, 1), order: []int64{0}}, impl.ErrRange)
		}
	}
}

func TestAccidentsOfNoPiece(t *testing.T) {
	for _, i := range []int64{-1, 3, 256, 1 << 32, least, greatest} {
		cost, c := impl.AccidentsOf(lines(3), i)
		numberFails(t, "no such piece", cost, c, impl.ErrRange)
	}
	for _, i := range []int64{0, -1, 40} {
		cost, c := impl.AccidentsOf(boardOf(1, 1), i)
		numberFails(t, "no pieces", cost, c, impl.ErrRange)
	}
	cost, c := impl.AccidentsOf(apart(40), 39)
	numberIs(t, "the last one", cost, c, 1)
	cost, c = impl.AccidentsOf(apart(40), 40)
	numberFails(t, "behind the last one", cost, c, impl.ErrRange)
}

// Boards without pieces: only what asks for a piece fails.
func TestBuildingWithoutPieces(t *testing.T) {
	want := map[string]int64{"AccidentsOf": impl.ErrRange, "WorstAccident": impl.ErrNotFound, "NeedlessGap": impl.ErrNotFound}
	for _, one := range buildingCalls() {
		for _, b := range []impl.Board{boardOf(1, 1), boardOf(24, 24)} {
			_, c := one.call(buildingArgs{board: b, count: 4, budget: 300})
			code(t, one.name+", no pieces", c, want[one.name])
		}
	}
	b := boardOf(3, 2)
	islands, _ := impl.IslandsOf(b)
	worsts, _ := impl.WorstsOf(b, nil)
	order, peak, _ := impl.SafeOrder(b)
	turns, _ := impl.GapsByTurns(b, 0)
	same(t, "no pieces", []int{len(islands), len(worsts), len(order), int(peak), len(turns)}, []int{0, 0, 0, 0, 0})
	does, c := impl.CheckGaps(b, nil, 0)
	same(t, "no pieces cost nothing", []any{does, c}, []any{true, int64(impl.OK)})
	does, c = impl.CheckGaps(b, nil, -1)
	same(t, "nothing is more than less", []any{does, c}, []any{false, int64(impl.OK)})
}

// Gaps, orders and knocks at the ends of what is in range.
func TestBuildingInRange(t *testing.T) {
	for _, gaps := range append(choices(3, 3), []int64{}) {
		worst, c := impl.WorstWithout(lines(3), gaps)
		numberIs(t, "gaps", worst, c, costWithout(lines(3), gaps))
	}
	for _, order := range ordersByHand(3) {
		_, c := impl.WorstsOf(lines(3), order)
		code(t, "orders", c, impl.OK)
	}
	for _, after := range []int64{0, 3} {
		for _, piece := range []int64{0, 2} {
			for side := range int8(4) {
				_, _, c := impl.SetUp(lines(3), countingTo(3), []impl.Knock{knockOf(after, piece, side)})
				code(t, "knocks", c, impl.OK)
			}
		}
	}
	_, c := impl.LostBy(lines(3), countingTo(3), slices.Repeat([]impl.Knock{knockOf(2, 2, south)}, 60))
	code(t, "as many knocks as may be", c, impl.OK)
}
