package tests

import (
	"slices"
	"testing"

	"loop.example/g01274/impl"
)

func spanOf(low, high int8) impl.Span { return impl.Span{Low: low, High: high} }

func windowOf(sides uint8, sure bool, early, late int64) impl.Window {
	return impl.Window{Sides: sides, Sure: sure, Early: early, Late: late}
}

// The sides of windows.
const (
	fromNorth = 1
	fromEast  = 2
	fromSouth = 4
	fromWest  = 8
)

// cannot is the window of a piece that cannot fall.
var cannot = windowOf(0, false, -1, -1)

// timedGame is a game with spans.
type timedGame struct {
	gameOf
	spans []impl.Span
}

// equalSpans tell for each piece that it takes just its Delay.
func equalSpans(b impl.Board) []impl.Span {
	var spans []impl.Span
	for _, p := range b.Pieces {
		spans = append(spans, spanOf(p.Delay, p.Delay))
	}
	return spans
}

// manySpans are so many times the same span.
func manySpans(count int, low, high int8) []impl.Span {
	return slices.Repeat([]impl.Span{spanOf(low, high)}, count)
}

// chanceSpans are spans of which the widest ones differ by less than wide.
func chanceSpans(d *dice, count, wide int) []impl.Span {
	var spans []impl.Span
	for range count {
		low := int8(1 + d.upTo(4))
		spans = append(spans, spanOf(low, min(9, low+int8(d.upTo(wide)))))
	}
	return spans
}

// someTimed are valid games with spans; some of these are equal bounds, and some are very wide.
func someTimed(count int) []timedGame {
	var all []timedGame
	d := dice(606)
	for _, g := range someGames() {
		if len(g.board.Pieces) <= 60 && len(all) < count {
			wide := []int{1, 2, 2, 3, 4, 9}[len(all)%6]
			all = append(all, timedGame{g, chanceSpans(&d, len(g.board.Pieces), wide)})
		}
	}
	return all
}

// crossroads is a board without free cells, full of crosses and forks, with pushes of its edges, whose hits come across each other.
func crossroads(d *dice) gameOf {
	g := gameOf{board: fullBoard(10, 6, 60)}
	for i := range g.board.Pieces {
		p := &g.board.Pieces[i]
		p.Kind, p.Turn, p.Delay = []int8{5, 5, 5, 5, 5, 5, 5, 2, 2, 4}[d.upTo(10)], int8(d.upTo(4)), int8(1+d.upTo(4))
	}
	for range 3 + d.upTo(6) {
		across, down, tick := int8(d.upTo(10)), int8(d.upTo(6)), int16(d.upTo(6))
		g.pushes = append(g.pushes, []impl.Push{
			pushOf(across, 0, north, tick), pushOf(9, down, east, tick), pushOf(across, 5, south, tick), pushOf(0, down, west, tick),
		}[d.upTo(4)])
	}
	return g
}

// noHit is the tick of a hit that there is not, in outlooks by hand.
const noHit = -1

// hitsByHand are ticks of hits, for each piece and each side.
type hitsByHand [][4]int64

func noHitsByHand(count int) hitsByHand {
	return slices.Repeat(hitsByHand{{noHit, noHit, noHit, noHit}}, count)
}

func leastHit(hits [4]int64) int64 {
	least := int64(noHit)
	for _, tick := range hits {
		if tick != noHit && (least == noHit || tick < least) {
			least = tick
		}
	}
	return least
}

// mayByHand tells whether a piece may fall from a side, by the document's words.
func mayByHand(early, late [4]int64, from int) bool {
	if early[from] == noHit {
		return false
	}
	for side, tick := range late {
		if tick != noHit && (tick < early[from] || tick == early[from] && side < from) {
			return false
		}
	}
	return true
}

// pushedAt tells whether a push hits a piece from a side at a tick.
func pushedAt(g gameOf, i, side int, tick int64) bool {
	return slices.Contains(g.pushes, impl.Push{At: g.board.Pieces[i].At, Side: int8(side), Tick: int16(tick)})
}

// tickByTick goes through all ticks, and puts down for each piece and side the first one at which it is hit.
func tickByTick(g gameOf, r []reactions, arrives func(hits hitsByHand, j, side int, tick int64) bool) hitsByHand {
	hits := noHitsByHand(len(r))
	last := int64(0)
	for _, p := range g.pushes {
		last = max(last, int64(p.Tick))
	}
	// Behind the last push, and 9 ticks without any hit, none can come.
	for tick := int64(0); tick <= last+9; tick++ {
		for i := range r {
			for side, j := range r[i].near {
				if !r[i].falls[side] || hits[i][side] != noHit {
					continue
				}
				if pushedAt(g, i, side, tick) || j >= 0 && arrives(hits, int(j), (side+2)%4, tick) {
					hits[i][side] = tick
					last = max(last, tick)
				}
			}
		}
	}
	return hits
}

func earliestByHand(g timedGame, r []reactions, late hitsByHand) hitsByHand {
	return tickByTick(g.gameOf, r, func(hits hitsByHand, j, side int, tick int64) bool {
		for from := range 4 {
			arrives := hits[j][from]+int64(g.spans[j].Low) == tick
			if arrives && mayByHand(hits[j], late[j], from) && r[j].hits[from][side] {
				return true
			}
		}
		return false
	})
}

func latestByHand(g timedGame, r []reactions, may [][4]bool) hitsByHand {
	return tickByTick(g.gameOf, r, func(hits hitsByHand, j, side int, tick int64) bool {
		least := leastHit(hits[j])
		if least == noHit || least+int64(g.spans[j].High) != tick {
			return false
		}
		for from := range 4 {
			if may[j][from] && !r[j].hits[from][side] {
				return false
			}
		}
		return true
	})
}

// outlookByHand tells the earliest and latest hits, the sides, and how many rounds there were.
func outlookByHand(g timedGame) (hitsByHand, hitsByHand, [][4]bool, int64) {
	r := reactionsIn(g.board)
	early, late := noHitsByHand(len(r)), noHitsByHand(len(r))
	for rounds := int64(1); ; rounds++ {
		nextEarly := earliestByHand(g, r, late)
		may := make([][4]bool, len(r))
		for i := range may {
			for from := range 4 {
				may[i][from] = mayByHand(nextEarly[i], late[i], from)
			}
		}
		nextLate := latestByHand(g, r, may)
		if slices.Equal(nextEarly, early) && slices.Equal(nextLate, late) {
			return early, late, may, rounds
		}
		early, late = nextEarly, nextLate
	}
}

// windowsByHand tells the windows, and how many rounds there were.
func windowsByHand(g timedGame) ([]impl.Window, int64) {
	early, late, may, rounds := outlookByHand(g)
	var windows []impl.Window
	for i := range early {
		w := cannot
		for from := range 4 {
			if may[i][from] {
				w.Sides += 1 << from
				if w.Early == noHit || early[i][from] < w.Early {
					w.Early = early[i][from]
				}
			}
		}
		w.Late = leastHit(late[i])
		w.Sure = w.Late != noHit
		windows = append(windows, w)
	}
	return windows, rounds
}

// sideCount tells how many sides a window has.
func sideCount(w impl.Window) int {
	count := 0
	for side := range 4 {
		count += int(w.Sides) >> side % 2
	}
	return count
}

// windowsAre fails the test if there are other windows, or another number of rounds; rounds of 0 may be any number.
func windowsAre(t *testing.T, name string, g timedGame, rounds int64, want ...impl.Window) {
	t.Helper()
	windows, count, c := impl.WindowsOf(g.board, g.pushes, g.spans)
	listIs(t, name, windows, c, want...)
	if rounds > 0 {
		same(t, name+", rounds", count, rounds)
	}
}

// windowsOf fails the test if there is a code.
func windowsOf(t *testing.T, g timedGame) []impl.Window {
	t.Helper()
	windows, _, c := impl.WindowsOf(g.board, g.pushes, g.spans)
	code(t, "WindowsOf", c, impl.OK)
	return windows
}

// withDelays calls a function with the board for all delays within the spans, one after the other.
func withDelays(g timedGame, call func(b impl.Board)) {
	b := g.board
	b.Pieces = slices.Clone(b.Pieces)
	for i, s := range g.spans {
		b.Pieces[i].Delay = s.Low
	}
	for {
		call(b)
		i := 0
		for ; i < len(g.spans) && b.Pieces[i].Delay == g.spans[i].High; i++ {
			b.Pieces[i].Delay = g.spans[i].Low
		}
		if i == len(g.spans) {
			return
		}
		b.Pieces[i].Delay++
	}
}

// choicesOf tells for how many delays within the spans withDelays calls, as far as these are not more than a million.
func choicesOf(spans []impl.Span) int {
	count := 1
	for _, s := range spans {
		count = min(1000000, count*int(s.High-s.Low+1))
	}
	return count
}

// badBounds are lists of three spans, one of which is not valid, each for one reason.
func badBounds() map[string][]impl.Span {
	good := spanOf(1, 9)
	return map[string][]impl.Span{
		"low of 0":        {good, spanOf(0, 3), good},
		"low below":       {spanOf(-1, 3), good, good},
		"least low":       {good, good, spanOf(-128, 9)},
		"low above high":  {good, spanOf(3, 2), good},
		"high above":      {good, good, spanOf(1, 10)},
		"greatest high":   {spanOf(9, 127), good, good},
		"both above":      {good, spanOf(10, 10), good},
		"both 0":          {spanOf(0, 0), good, good},
		"both below":      {good, spanOf(-5, -2), good},
		"greatest, least": {good, good, spanOf(127, -128)},
	}
}

// badSpans are lists of spans that are not valid for a board of three pieces, each for one reason.
func badSpans() map[string][]impl.Span {
	bad, good := badBounds(), spanOf(1, 9)
	bad["none"] = nil
	bad["too few"] = []impl.Span{good, good}
	bad["too many"] = []impl.Span{good, good, good, good}
	bad["far too many"] = manySpans(1000, 1, 1)
	return bad
}
