package tests

import (
	"slices"
	"strings"
	"testing"

	"loop.example/g01274/impl"
)

func TestValidSpans(t *testing.T) {
	row := rowOf(0, 0, 0)
	for _, spans := range [][]impl.Span{threeSpans(), manySpans(3, 1, 1), manySpans(3, 9, 9), {spanOf(1, 9), spanOf(5, 5), spanOf(8, 9)}} {
		same(t, "valid", impl.ValidSpans(row, spans), true)
	}
	for name, spans := range badSpans() {
		same(t, name, impl.ValidSpans(row, spans), false)
	}
	same(t, "no pieces", impl.ValidSpans(boardOf(1, 1), nil), true)
	same(t, "no pieces, one span", impl.ValidSpans(boardOf(1, 1), manySpans(1, 1, 1)), false)
	for name, b := range badBoards() {
		same(t, name, impl.ValidSpans(b, manySpans(len(b.Pieces), 1, 1)), false)
		same(t, name, impl.ValidSpans(b, nil), false)
	}
	// There may be more pieces than are timed.
	for _, count := range []int{60, 61, 200} {
		b := fullBoard(20, 10, count)
		same(t, "many", impl.ValidSpans(b, manySpans(count, 2, 3)), true)
		same(t, "one less", impl.ValidSpans(b, manySpans(count-1, 2, 3)), false)
		same(t, "one more", impl.ValidSpans(b, manySpans(count+1, 2, 3)), false)
	}
}

func TestSpansAround(t *testing.T) {
	b := rowOf(0, 1, 2, 3)
	for i, delay := range []int8{1, 4, 8, 9} {
		b.Pieces[i].Delay = delay
	}
	for _, one := range []struct {
		less, more int64
		want       []impl.Span
	}{
		{0, 0, []impl.Span{spanOf(1, 1), spanOf(4, 4), spanOf(8, 8), spanOf(9, 9)}},
		{1, 0, []impl.Span{spanOf(1, 1), spanOf(3, 4), spanOf(7, 8), spanOf(8, 9)}},
		{0, 1, []impl.Span{spanOf(1, 2), spanOf(4, 5), spanOf(8, 9), spanOf(9, 9)}},
		{3, 2, []impl.Span{spanOf(1, 3), spanOf(1, 6), spanOf(5, 9), spanOf(6, 9)}},
		{4, 5, []impl.Span{spanOf(1, 6), spanOf(1, 9), spanOf(4, 9), spanOf(5, 9)}},
		{8, 8, manySpans(4, 1, 9)},
		{9, 9, manySpans(4, 1, 9)},
	} {
		spans, c := impl.SpansAround(b, one.less, one.more)
		listIs(t, "around", spans, c, one.want...)
		same(t, "valid", impl.ValidSpans(b, spans), true)
	}
	spans, c := impl.SpansAround(boardOf(3, 3), 9, 9)
	listIs(t, "no pieces", spans, c)
	spans, c = impl.SpansAround(fullBoard(20, 3, 60), 0, 0)
	listIs(t, "60 pieces", spans, c, equalSpans(fullBoard(20, 3, 60))...)
	for _, n := range []int64{-1, 10, 256, 1 << 32, least, greatest} {
		for _, other := range []int64{0, 9, -1} {
			spans, c = impl.SpansAround(b, n, other)
			listFails(t, "less", spans, c, impl.ErrRange)
			spans, c = impl.SpansAround(b, other, n)
			listFails(t, "more", spans, c, impl.ErrRange)
			spans, c = impl.SpansAround(boardOf(1, 1), n, other)
			listFails(t, "no pieces", spans, c, impl.ErrRange)
		}
	}
}

func TestChanceDelays(t *testing.T) {
	b := rowOf(0, 4, 5)
	// The seed 0 becomes 1013904223, 1196435762 and 3519870697, which are 15470, 18256 and 53708 times 65536, and something.
	for _, one := range []struct {
		spans []impl.Span
		want  []int
	}{
		{threeSpans(), []int{1, 2, 1}},
		{manySpans(3, 1, 9), []int{1 + 15470%9, 1 + 18256%9, 1 + 53708%9}},
		{manySpans(3, 2, 8), []int{2 + 15470%7, 2 + 18256%7, 2 + 53708%7}},
		{manySpans(3, 5, 5), []int{5, 5, 5}},
	} {
		made, seed, c := impl.ChanceDelays(b, one.spans, 0)
		code(t, "seed 0", c, impl.OK)
		same(t, "seed 0", []any{delaysOf(made.Pieces), seed}, []any{one.want, uint32(3519870697)})
		want := b
		want.Pieces = slices.Clone(b.Pieces)
		for i := range want.Pieces {
			want.Pieces[i].Delay = int8(one.want[i])
		}
		boardIs(t, "all else stays", made, c, want)
	}
	made, seed, c := impl.ChanceDelays(boardOf(2, 2), nil, 77)
	boardIs(t, "no pieces", made, c, boardOf(2, 2))
	same(t, "the seed stays", seed, uint32(77))
}

// Delays by chance, and the seed that comes of them, are as the document tells.
func TestChanceDelaysByRule(t *testing.T) {
	met := map[int8]int{}
	for k, g := range append(someTimed(120), longRow(0, 1, 9)) {
		for _, seed := range []uint32{0, 1, 5, uint32(k), 65535, 65536, 1 << 31, 4294967295} {
			want, big := slices.Clone(g.board.Pieces), uint64(seed)
			for i, s := range g.spans {
				big = (1664525*big + 1013904223) % (1 << 32)
				want[i].Delay = s.Low + int8(big/65536%uint64(s.High-s.Low+1))
				met[want[i].Delay]++
			}
			made, next, c := impl.ChanceDelays(g.board, g.spans, seed)
			boardIs(t, "by rule", made, c, boardOf(g.board.Wide, g.board.High, want...))
			same(t, "the seed", next, uint32(big))
			same(t, "valid", impl.ValidBoard(made), true)
		}
	}
	for delay := int8(1); delay <= 9; delay++ {
		if met[delay] < 20 {
			t.Errorf("only %d times the delay %d", met[delay], delay)
		}
	}
}

func TestFitsWindow(t *testing.T) {
	sure, unsure := windowOf(fromWest+fromNorth, true, 3, 5), windowOf(fromEast, false, 3, -1)
	for _, one := range []struct {
		name   string
		window impl.Window
		fall   impl.Fall
		want   bool
	}{
		{"at the first tick", sure, fallOf(3, west, 0), true},
		{"at the last tick", sure, fallOf(5, north, -1), true},
		{"between", sure, fallOf(4, west, 900), true},
		{"too early", sure, fallOf(2, west, 0), false},
		{"too late", sure, fallOf(6, west, 0), false},
		{"at 0", sure, fallOf(0, west, 0), false},
		{"from the east", sure, fallOf(4, east, 0), false},
		{"from the south", sure, fallOf(4, south, 0), false},
		{"it stays, and is sure", sure, stay, false},
		{"far below", sure, fallOf(least, west, 0), false},
		{"at the first tick, not sure", unsure, fallOf(3, east, 0), true},
		{"far behind, not sure", unsure, fallOf(greatest, east, 0), true},
		{"too early, not sure", unsure, fallOf(2, east, 0), false},
		{"from the north, not sure", unsure, fallOf(3, north, 0), false},
		{"it stays, not sure", unsure, stay, true},
		{"it stays, from elsewhere", unsure, fallOf(-1, west, 7), true},
		{"it stays, from no side", unsure, fallOf(-1, 99, 7), true},
		{"far below, not sure", unsure, fallOf(least, -128, least), true},
		{"it stays, as it has to", cannot, stay, true},
		{"it cannot fall", cannot, fallOf(0, north, -1), false},
		{"no side", cannot, fallOf(greatest, west, 0), false},
		{"sure at once", windowOf(fromNorth, true, 0, 0), fallOf(0, north, -1), true},
		{"sure, from no side", windowOf(0, true, 0, 0), fallOf(0, north, -1), false},
		{"side 4", windowOf(255, true, 0, 9), fallOf(1, 4, 0), false},
		{"side 7", windowOf(255, true, 0, 9), fallOf(1, 7, 0), false},
		{"side 8", windowOf(255, true, 0, 9), fallOf(1, 8, 0), false},
		{"side 127", windowOf(255, true, 0, 9), fallOf(1, 127, 0), false},
		{"side -1", windowOf(255, true, 0, 9), fallOf(1, -1, 0), false},
		{"side -128", windowOf(255, true, 0, 9), fallOf(1, -128, 0), false},
		{"all sides", windowOf(255, true, 0, 9), fallOf(1, 3, 0), true},
		{"late before early", windowOf(15, true, 5, 4), fallOf(5, 3, 0), false},
		{"a late that is not sure", windowOf(15, false, 5, 6), fallOf(7, 3, 0), true},
		{"the zero window, and its fall", impl.Window{}, impl.Fall{}, false},
		{"the zero window", impl.Window{}, stay, true},
		{"sure without ticks", impl.Window{Sure: true}, stay, false},
	} {
		same(t, one.name, impl.FitsWindow(one.window, one.fall), one.want)
	}
	for sides := range 16 {
		for from := range int8(4) {
			same(t, "sides", impl.FitsWindow(windowOf(uint8(sides), false, 0, -1), fallOf(0, from, 0)), sides>>from%2 == 1)
		}
	}
}

func TestFitsWindows(t *testing.T) {
	windows := []impl.Window{windowOf(fromWest, true, 0, 0), windowOf(fromWest, true, 1, 2), windowOf(fromWest, false, 2, -1)}
	good := []impl.Fall{fallOf(0, west, -1), fallOf(2, west, 0), stay}
	i, c := impl.FitsWindows(windows, good)
	numberFails(t, "all fit", i, c, impl.ErrNotFound)
	i, c = impl.FitsWindows(nil, []impl.Fall{})
	numberFails(t, "none", i, c, impl.ErrNotFound)
	for k, wrong := range []impl.Fall{fallOf(1, west, -1), fallOf(0, west, 0), fallOf(1, west, 1)} {
		falls := slices.Clone(good)
		falls[k] = wrong
		i, c = impl.FitsWindows(windows, falls)
		same(t, "one wrong", []int64{i, c}, []int64{int64(k), impl.OK})
		falls[2] = fallOf(0, west, 0)
		i, c = impl.FitsWindows(windows, falls)
		same(t, "the first one that is wrong", []int64{i, c}, []int64{int64(k), impl.OK})
	}
	for _, falls := range [][]impl.Fall{nil, good[:2], append(slices.Clone(good), stay), {stay, stay}, slices.Repeat(good, 1000)} {
		i, c = impl.FitsWindows(windows, falls)
		numberFails(t, "not as many", i, c, impl.ErrRange)
	}
	i, c = impl.FitsWindows(nil, good)
	numberFails(t, "no windows", i, c, impl.ErrRange)
	// There may be more of them than pieces are timed.
	many, falls := slices.Repeat([]impl.Window{cannot}, 100000), slices.Repeat([]impl.Fall{stay}, 100000)
	i, c = impl.FitsWindows(many, falls)
	numberFails(t, "many", i, c, impl.ErrNotFound)
	falls[99999].Tick = 0
	i, c = impl.FitsWindows(many, falls)
	same(t, "the last one", []int64{i, c}, []int64{99999, impl.OK})
}

func TestNarrowSpan(t *testing.T) {
	spans := []impl.Span{spanOf(1, 2), spanOf(2, 6), spanOf(9, 9)}
	for low := int64(-1); low <= 11; low++ {
		for high := int64(-1); high <= 11; high++ {
			narrow, c := impl.NarrowSpan(spans, 1, low, high)
			switch {
			case low < 1 || high > 9 || low > high:
				listFails(t, "no bounds", narrow, c, impl.ErrRange)
			case low < 2 || high > 6:
				listFails(t, "not within", narrow, c, impl.ErrState)
			default:
				listIs(t, "narrow", narrow, c, spanOf(1, 2), spanOf(int8(low), int8(high)), spanOf(9, 9))
			}
		}
	}
	for i, s := range spans {
		narrow, c := impl.NarrowSpan(spans, int64(i), int64(s.Low), int64(s.High))
		listIs(t, "as before", narrow, c, spans...)
	}
	for _, i := range []int64{-1, 3, 256, 1 << 32, least, greatest} {
		narrow, c := impl.NarrowSpan(spans, i, 9, 9)
		listFails(t, "no such index", narrow, c, impl.ErrRange)
		narrow, c = impl.NarrowSpan(nil, i, 1, 1)
		listFails(t, "no spans", narrow, c, impl.ErrRange)
	}
	narrow, c := impl.NarrowSpan(nil, 0, 1, 1)
	listFails(t, "no spans", narrow, c, impl.ErrRange)
	for _, n := range []int64{0, 10, 257, 258, 1<<32 + 2, least, greatest} {
		narrow, c = impl.NarrowSpan(spans, 1, 2, n)
		listFails(t, "high", narrow, c, impl.ErrRange)
		narrow, c = impl.NarrowSpan(spans, 1, n, 3)
		listFails(t, "low", narrow, c, impl.ErrRange)
	}
}

// There may be any number of spans, as there is no board for which they are to be valid.
func TestNarrowManySpans(t *testing.T) {
	for _, count := range []int{1, 60, 61, 100000} {
		spans := manySpans(count, 1, 9)
		narrow, c := impl.NarrowSpan(spans, int64(count-1), 3, 4)
		listIs(t, "many", narrow, c, append(manySpans(count-1, 1, 9), spanOf(3, 4))...)
		narrow, c = impl.NarrowSpan(spans, int64(count), 3, 4)
		listFails(t, "many, no such index", narrow, c, impl.ErrRange)
		narrow, c = impl.NarrowSpan(manySpans(count, 3, 4), 0, 3, 5)
		listFails(t, "many, not within", narrow, c, impl.ErrState)
	}
}

// invalidToNarrow fails the test if NarrowSpan gives another code than ErrInvalid, whatever else is wrong.
func invalidToNarrow(t *testing.T, name string, spans []impl.Span) {
	t.Helper()
	for _, i := range []int64{0, 1, int64(len(spans)) - 1, -1, int64(len(spans)), least, greatest} {
		for _, bounds := range [][2]int64{{2, 2}, {1, 9}, {0, 3}, {-5, -2}, {3, 2}, {1, 10}, {9, 127}, {least, greatest}} {
			narrow, c := impl.NarrowSpan(spans, i, bounds[0], bounds[1])
			listFails(t, name, narrow, c, impl.ErrInvalid)
		}
	}
}

// ErrInvalid comes first, whichever span is not valid, and also if it is the one that becomes another one.
func TestNarrowInvalidSpans(t *testing.T) {
	for name, spans := range badBounds() {
		invalidToNarrow(t, name, spans)
	}
	for low := int8(-2); low <= 11; low++ {
		for high := int8(-2); high <= 11; high++ {
			s := spanOf(low, high)
			if low < 1 || low > high || high > 9 {
				invalidToNarrow(t, "alone", []impl.Span{s})
				continue
			}
			narrow, c := impl.NarrowSpan([]impl.Span{s}, 0, int64(high), int64(high))
			listIs(t, "valid", narrow, c, spanOf(high, high))
		}
	}
	for _, count := range []int{60, 61, 100000} {
		for _, at := range []int{0, count / 2, count - 1} {
			spans := manySpans(count, 1, 9)
			spans[at] = spanOf(3, 2)
			invalidToNarrow(t, "many", spans)
		}
	}
}

func TestSpansText(t *testing.T) {
	same(t, "text", impl.SpansText(threeSpans()), "1-2 1-3 1-1")
	same(t, "one", impl.SpansText(manySpans(1, 9, 9)), "9-9")
	same(t, "none", impl.SpansText(nil), "")
	same(t, "the most", impl.SpansText(manySpans(60, 1, 9)), strings.TrimSuffix(strings.Repeat("1-9 ", 60), " "))
	same(t, "one too many", impl.SpansText(manySpans(61, 1, 9)), "")
	for _, s := range []impl.Span{spanOf(0, 1), spanOf(1, 0), spanOf(2, 1), spanOf(1, 10), spanOf(10, 10), spanOf(-1, 5), spanOf(-3, -2), spanOf(-128, 127), spanOf(0, 0), spanOf(9, 8)} {
		same(t, "not as told", impl.SpansText([]impl.Span{s}), "")
		same(t, "not as told", impl.SpansText([]impl.Span{spanOf(1, 1), s}), "")
		same(t, "not as told", impl.SpansText([]impl.Span{s, spanOf(1, 1)}), "")
	}
}

// Spans are read from their texts.
func TestReadWrittenSpans(t *testing.T) {
	var all []impl.Span
	for low := int8(1); low <= 9; low++ {
		for high := low; high <= 9; high++ {
			all = append(all, spanOf(low, high))
			got, c := impl.ReadSpans(impl.SpansText(all))
			listIs(t, "written and read", got, c, all...)
		}
	}
	for _, g := range append(someTimed(100), longRow(0, 3, 4)) {
		got, c := impl.ReadSpans(impl.SpansText(g.spans))
		listIs(t, "written and read", got, c, g.spans...)
	}
	none, c := impl.ReadSpans("")
	listIs(t, "none", none, c)
}

func TestReadSpansErrors(t *testing.T) {
	texts := []string{
		" ", "\n", "1-2\n", " 1-2", "1-2 ", "1-2  1-3", "1-2\t1-3", "1-2\n1-3", "1-2\r", "1-2,1-3", "1-2;", "-", "--", "1", "1-", "-2", "1--2", "1-2-", "-1-2", "1-2-3", "1-2 3", "1 2", "1 - 2", "1 -2", "1- 2", "12",
		"0-1", "0-0", "1-0", "2-1", "9-8", "1-10", "10-10", "1-11", "1-256", "257-258", "1-258", "1-99999999999999999999", "-1-1", "1--1", "1-2 2-1", "0-1 1-2", "1-2 1-10 1-2",
		"01-2", "1-02", "+1-2", "1-+2", "-0-2", "1.-2", "1-2.", "1e0-2", "1-2e0", "0x1-2", "1_0-2", "a-b", "one-two", "1-b", "a-2", "1:2", "1–2", "1−2", "\u0661-\u0662", "\x00", "1-2\x00",
		strings.TrimSuffix(strings.Repeat("1-9 ", 61), " "), strings.TrimSuffix(strings.Repeat("1-9 ", 250000), " "), strings.Repeat(" ", 1000000), strings.Repeat("-", 1000000), strings.Repeat("1", 1000000), strings.Repeat("1-", 500000),
	}
	for _, text := range texts {
		got, c := impl.ReadSpans(text)
		listFails(t, "ReadSpans of "+text[:min(len(text), 40)], got, c, impl.ErrSyntax)
	}
	got, c := impl.ReadSpans(strings.TrimSuffix(strings.Repeat("1-9 ", 60), " "))
	listIs(t, "the most", got, c, manySpans(60, 1, 9)...)
}
