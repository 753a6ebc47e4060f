package tests

import (
	"slices"
	"strings"
	"sync"
	"testing"

	"loop.example/g01274/impl"
)

// timingArgs are arguments for all functions of chapter 6.
type timingArgs struct {
	timedGame
	windows []impl.Window
	falls   []impl.Fall
	i       int64
	number  int64
	text    string
}

// rawChapter6 calls every function of the chapter with a code, and returns the results of each call, the code at last.
func rawChapter6(a timingArgs) [][]any {
	var all [][]any
	two := func(result any, code int64) { all = append(all, []any{result, code}) }
	two(impl.SpansAround(a.board, a.number, a.i))
	windows, rounds, code := impl.WindowsOf(a.board, a.pushes, a.spans)
	all = append(all, []any{windows, rounds, code})
	two(impl.CanFall(a.board, a.pushes, a.spans))
	two(impl.MustFall(a.board, a.pushes, a.spans))
	two(impl.RacesOf(a.board, a.pushes, a.spans))
	widest, by, code := impl.WidestSpan(a.board, a.pushes, a.spans)
	all = append(all, []any{widest, by, code})
	two(impl.SlackFor(a.board, a.pushes, a.spans, a.i, a.number))
	two(impl.CriticalWay(a.board, a.pushes, a.spans, a.i))
	two(impl.SureWidth(a.board, a.pushes, a.number))
	b, seed, code := impl.ChanceDelays(a.board, a.spans, uint32(a.number))
	all = append(all, []any{b, seed, code})
	two(impl.FitsWindows(a.windows, a.falls))
	two(impl.NarrowSpan(a.spans, a.i, a.number, a.number))
	two(impl.NarrowSpan(a.spans, a.i, 1, 9))
	two(impl.ReadSpans(impl.SpansText(a.spans)))
	two(impl.ReadSpans(a.text))
	return all
}

// chapter6 calls every function of the chapter, nil lists being made empty.
func chapter6(a timingArgs) [][]any {
	all := evened(rawChapter6(a))
	one, fits := impl.Window{}, []any{}
	if len(a.windows) > 0 {
		one = a.windows[len(a.windows)-1]
	}
	for _, f := range a.falls[:min(3, len(a.falls))] {
		fits = append(fits, impl.FitsWindow(one, f))
	}
	return append(all, fits, []any{impl.ValidSpans(a.board, a.spans), impl.SameWindows(a.windows, a.windows), impl.SpansText(a.spans), int64(impl.OK)})
}

var someSpansTexts = []string{"1-2 1-3 1-1", "", "9-9", "2-1", "1-2 ", "a"}

// timingArgsOf are arguments with a valid game or not; windows and falls are those of the game, some of them changed.
func timingArgsOf(g timedGame, k int) timingArgs {
	numbers := []int64{-1, 0, 1, 2, 3, 5, 9, 10, 1000000, 1000001}
	a := timingArgs{timedGame: g, i: int64(k%7 - 1), number: numbers[k%len(numbers)], text: someSpansTexts[k%len(someSpansTexts)]}
	a.windows, _, _ = impl.WindowsOf(g.board, g.pushes, g.spans)
	a.falls = variedFalls(g.gameOf, k)
	return a
}

// variedTiming are valid ones and invalid ones.
func variedTiming() []timingArgs {
	games := append(someTimed(60), crowded(10)...)
	for _, list := range badPushes() {
		games = append(games, timedGame{gameOf{rowOf(0, 0, 0), list}, threeSpans()})
	}
	for _, spans := range badSpans() {
		games = append(games, timedGame{gameOf{rowOf(0, 4, 0), []impl.Push{pushOf(0, 0, west, 0)}}, spans})
	}
	for _, b := range badBoards() {
		games = append(games, timedGame{gameOf{board: b}, manySpans(len(b.Pieces), 1, 2)})
	}
	games = append(games, timedGame{gameOf{board: fullBoard(20, 10, 61)}, manySpans(61, 1, 1)}, gateRow(2), gateRow(3), ring(pushOf(0, 0, south, 0)))
	var all []timingArgs
	for k, g := range games {
		all = append(all, timingArgsOf(g, k), timingArgsOf(g, 3*k+5))
	}
	return all
}

// roomyTiming are the arguments with room behind their lists, and a function that copies the whole of these.
func roomyTiming(a timingArgs) (timingArgs, func() []any) {
	board, pieces := roomy(a.board)
	pushes, allPushes := withRoom(a.pushes, pushOf(77, 77, 77, 77))
	spans, allSpans := withRoom(a.spans, spanOf(77, 77))
	windows, allWindows := withRoom(a.windows, windowOf(77, true, 77, 77))
	falls, allFalls := withRoom(a.falls, fallOf(77, 77, 77))
	a.board, a.pushes, a.spans, a.windows, a.falls = board, pushes, spans, windows, falls
	return a, func() []any {
		return []any{slices.Clone(pieces), slices.Clone(allPushes), slices.Clone(allSpans), slices.Clone(allWindows), slices.Clone(allFalls)}
	}
}

// P1: no function modifies an argument, nor the unused capacity of one, and equal arguments give equal results.
func TestChapter6Purity(t *testing.T) {
	for _, a := range variedTiming() {
		used, lists := roomyTiming(a)
		kept := lists()
		one := chapter6(used)
		same(t, "arguments", lists(), kept)
		same(t, "equal arguments", chapter6(a), one)
		same(t, "again", chapter6(used), one)
	}
}

// overwriteTiming fills a list of spans or windows, or that of a board, with other values.
func overwriteTiming(result any) {
	switch list := result.(type) {
	case []impl.Span:
		clear(list[:cap(list)])
	case []impl.Window:
		clear(list[:cap(list)])
	case impl.Board:
		clear(list.Pieces[:cap(list.Pieces)])
	default:
		overwrite(result)
	}
}

// P1: results share no memory with arguments, nor with what other calls return.
func TestChapter6Sharing(t *testing.T) {
	for _, a := range variedTiming() {
		used, lists := roomyTiming(a)
		kept := lists()
		before := chapter6(used)
		for range 2 {
			for _, results := range rawChapter6(used) {
				for _, result := range results {
					overwriteTiming(result)
					same(t, "the arguments", lists(), kept)
				}
			}
		}
		same(t, "nothing is kept", chapter6(used), before)
	}
}

// Spans that are as before, and delays that are, are new all the same.
func TestSameSpansAreNew(t *testing.T) {
	spans := threeSpans()
	narrow, _ := impl.NarrowSpan(spans, 1, 1, 3)
	overwriteTiming(narrow)
	same(t, "the spans", spans, threeSpans())
	b := rowOf(0, 0, 0)
	made, _, _ := impl.ChanceDelays(b, manySpans(3, 1, 1), 9)
	overwriteTiming(made)
	same(t, "the board", b, rowOf(0, 0, 0))
}

// P1: nil lists do the same as empty ones.
func TestChapter6NilAndEmpty(t *testing.T) {
	for _, b := range []impl.Board{{}, boardOf(1, 1), boardOf(3, 2), rowOf(0, 0)} {
		for k := range 20 {
			nils := timingArgsOf(timedGame{gameOf: gameOf{board: b}}, k)
			nils.windows, nils.falls = nil, nil
			empty := nils
			empty.board, empty.pushes, empty.spans = evenBoard(b), []impl.Push{}, []impl.Span{}
			empty.windows, empty.falls = []impl.Window{}, []impl.Fall{}
			same(t, "nil and empty", chapter6(nils), chapter6(empty))
		}
	}
	g := timedGame{gameOf{board: rowOf(0, 0)}, manySpans(2, 1, 2)}
	empty := g
	empty.pushes = []impl.Push{}
	same(t, "no pushes", chapter6(timingArgsOf(g, 2)), chapter6(timingArgsOf(empty, 2)))
}

// P1: every function returns for all arguments, however large or wrong they are.
func TestChapter6Totality(t *testing.T) {
	long := longRow(1000, 1, 9)
	boards := []impl.Board{
		{}, boardOf(-128, 127), boardOf(24, 24), long.board, fullBoard(20, 3, 60), fullBoard(20, 10, 200), fullBoard(24, 24, 201),
		{Wide: 24, High: 24, Pieces: make([]impl.Piece, 300000)}, boardOf(2, 2, pieceOf(-128, -128, -128, -128, -128)), rowOf(0, 4, 5),
	}
	pushes := [][]impl.Push{nil, make([]impl.Push, 20), long.pushes, make([]impl.Push, 200000), {pushOf(-128, 127, -128, -32768)}, {pushOf(127, -128, 127, 32767)}}
	spans := [][]impl.Span{nil, manySpans(3, 1, 9), manySpans(60, 1, 9), manySpans(60, 9, 9), manySpans(200, 1, 2), make([]impl.Span, 300000), {spanOf(-128, 127)}, {spanOf(127, -128)}}
	windows := [][]impl.Window{nil, make([]impl.Window, 60), make([]impl.Window, 100000), {windowOf(255, true, least, greatest)}, {windowOf(255, false, greatest, least)}}
	falls := [][]impl.Fall{nil, make([]impl.Fall, 60), make([]impl.Fall, 100000), {fallOf(least, -128, least)}, {fallOf(greatest, 127, greatest)}}
	texts := append(slices.Clone(someSpansTexts), strings.Repeat(" ", 1000000), strings.Repeat("1-9 ", 250000), strings.Repeat("\x00", 300))
	numbers := []int64{least, least + 1, -1, 0, 1, 2, 9, 10, 59, 60, 200, 1000, 1000000, 1000001, 1 << 32, greatest}
	k := 0
	for _, b := range boards {
		for _, list := range pushes {
			for _, s := range spans {
				k++
				chapter6(timingArgs{timedGame{gameOf{b, list}, s}, windows[k%len(windows)], falls[k/2%len(falls)], numbers[k%len(numbers)], numbers[k/3%len(numbers)], texts[k%len(texts)]})
			}
		}
	}
}

// P1: with a code other than OK all other results are zero values.
func TestChapter6ZeroResults(t *testing.T) {
	codes := map[int64]int{}
	for _, a := range variedTiming() {
		for _, results := range rawChapter6(a) {
			codes[zeroBeside(t, results)]++
		}
	}
	for _, c := range []int64{impl.ErrInvalid, impl.ErrRange, impl.ErrLimit, impl.ErrState, impl.ErrSyntax, impl.ErrNotFound} {
		if codes[c] < 10 {
			t.Errorf("only %d times %s", codes[c], impl.CodeName(c))
		}
	}
}

// P1: whoever else asks at the same time, the answer is the same.
func TestChapter6AtTheSameTime(t *testing.T) {
	a := timingArgsOf(crowded(3)[2], 4)
	want := chapter6(a)
	var group sync.WaitGroup
	for range 20 {
		group.Go(func() { same(t, "again", chapter6(a), want) })
	}
	group.Wait()
}
