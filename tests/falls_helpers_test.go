package tests

import (
	"slices"
	"testing"

	"loop.example/g01274/impl"
)

var stay = impl.Fall{Tick: -1, From: 0, By: -1}

func pushOf(x, y, side int8, tick int16) impl.Push {
	return impl.Push{At: cell(x, y), Side: side, Tick: tick}
}

func fallOf(tick int64, from int8, by int64) impl.Fall {
	return impl.Fall{Tick: tick, From: from, By: by}
}

// listIs fails the test if a list, with its code OK, is not the one that is wanted.
func listIs[T comparable](t *testing.T, name string, got []T, gotCode int64, want ...T) {
	t.Helper()
	code(t, name, gotCode, impl.OK)
	if !slices.Equal(got, want) {
		t.Errorf("%s: got %v, want %v", name, got, want)
	}
}

// listFails fails the test if there is no such code, or a list beside it.
func listFails[T any](t *testing.T, name string, got []T, gotCode, want int64) {
	t.Helper()
	code(t, name, gotCode, want)
	if len(got) != 0 {
		t.Errorf("%s: got %v beside the code %s", name, got, impl.CodeName(gotCode))
	}
}

// numberFails fails the test if there is no such code, or a number beside it.
func numberFails(t *testing.T, name string, got, gotCode, want int64) {
	t.Helper()
	code(t, name, gotCode, want)
	same(t, name, got, int64(0))
}

// rowOf is a board of pieces beside each other that have not been turned.
func rowOf(kinds ...int8) impl.Board {
	b := boardOf(int8(len(kinds)), 1)
	for i, kind := range kinds {
		b.Pieces = append(b.Pieces, pieceOf(int8(i), 0, kind, 0, 1))
	}
	return b
}

// gameOf is a board with pushes of it.
type gameOf struct {
	board  impl.Board
	pushes []impl.Push
}

// dice are numbers that look like chance, but are the same ones in each run.
type dice uint32

func (d *dice) upTo(n int) int {
	*d = *d*1664525 + 1013904223
	return int(*d>>16) % n
}

// chanceGame is a dense board with a few pushes that often hit at the same tick.
func chanceGame(d *dice) gameOf {
	b := boardOf(int8(1+d.upTo(6)), int8(1+d.upTo(6)))
	slowest, often := 1+d.upTo(3), d.upTo(3)*4
	for x := range b.Wide {
		for y := range b.High {
			if d.upTo(8) > 0 {
				at := d.upTo(len(b.Pieces) + 1)
				kind := min(impl.PcCross, int8(d.upTo(6+often)))
				p := pieceOf(x, y, kind, int8(d.upTo(4)), int8(1+d.upTo(slowest)))
				b.Pieces = slices.Insert(b.Pieces, at, p)
			}
		}
	}
	g := gameOf{board: b}
	for range d.upTo(9) {
		if len(b.Pieces) > 0 {
			at := b.Pieces[d.upTo(len(b.Pieces))].At
			g.pushes = append(g.pushes, impl.Push{At: at, Side: int8(d.upTo(4)), Tick: int16(d.upTo(3))})
		}
	}
	return g
}

// someGames are valid boards with valid pushes.
func someGames() []gameOf {
	games := []gameOf{
		{rowOf(0, 0, 0), []impl.Push{pushOf(0, 0, 3, 0)}},
		{rowOf(0, 4, 0), []impl.Push{pushOf(0, 0, 3, 0), pushOf(1, 0, 0, 1)}},
		{rowOf(5, 5, 5, 5), []impl.Push{pushOf(0, 0, 3, 1000), pushOf(3, 0, 1, 0)}},
		{rowOf(0, 5, 4, 3, 0, 5, 4, 3, 0, 5, 4, 1), []impl.Push{pushOf(0, 0, 3, 6)}},
	}
	for _, b := range someBoards() {
		games = append(games, gameOf{board: b})
		g := gameOf{board: b}
		for i, p := range b.Pieces[:min(impl.MaxPushes, len(b.Pieces))] {
			g.pushes = append(g.pushes, impl.Push{At: p.At, Side: int8(i % 4), Tick: int16(i * 7 % 40)})
		}
		games = append(games, g)
	}
	d := dice(7)
	for range 600 {
		games = append(games, chanceGame(&d))
	}
	return games
}

// badPushes are lists of pushes that are not valid for the board rowOf(0, 0, 0), each for one reason.
func badPushes() map[string][]impl.Push {
	good := pushOf(1, 0, 3, 5)
	return map[string][]impl.Push{
		"side below":   {pushOf(0, 0, -1, 0)},
		"side above":   {good, pushOf(0, 0, 4, 0)},
		"least side":   {pushOf(0, 0, -128, 0)},
		"tick below":   {pushOf(0, 0, 0, -1)},
		"tick above":   {good, good, pushOf(0, 0, 0, 1001)},
		"least tick":   {pushOf(0, 0, 0, -32768)},
		"largest tick": {pushOf(0, 0, 0, 32767)},
		"east of it":   {pushOf(3, 0, 0, 0)},
		"south of it":  {good, pushOf(0, 1, 0, 0)},
		"west of it":   {pushOf(-1, 0, 0, 0)},
		"far away":     {pushOf(127, -128, 0, 0)},
		"too many":     slices.Repeat([]impl.Push{good}, 21),
		"far too many": slices.Repeat([]impl.Push{good}, 1000),
	}
}

// reactions are what a piece does that is hit from each side.
type reactions struct {
	falls [4]bool
	hits  [4][4]bool
	near  [4]int64
}

// reactionsIn takes what pieces do, and where they stand, from the functions of chapter 1.
func reactionsIn(b impl.Board) []reactions {
	all := make([]reactions, len(b.Pieces))
	for i, p := range b.Pieces {
		for s := range 4 {
			all[i].falls[s], _ = impl.FallsFrom(p, int64(s))
			all[i].hits[s], _ = impl.HitsFrom(p, int64(s))
		}
		all[i].near, _ = impl.NeighboursOf(b, int64(i))
	}
	return all
}

// hitBy tells by what a piece is hit from a side at a tick, if at all, with falls of the others.
func hitBy(g gameOf, r []reactions, falls []impl.Fall, i, side int, tick int64) (int64, bool) {
	for _, p := range g.pushes {
		if p.At == g.board.Pieces[i].At && int(p.Side) == side && int64(p.Tick) == tick {
			return -1, true
		}
	}
	j := r[i].near[side]
	if j < 0 || j >= int64(len(falls)) || falls[j].Tick < 0 {
		return 0, false
	}
	arrives := falls[j].Tick+int64(g.board.Pieces[j].Delay) == tick
	return j, arrives && r[j].hits[falls[j].From][(side+2)%4]
}

// fallAt tells how a piece falls at a tick, from the least side from which it can; it stays if there is none.
func fallAt(g gameOf, r []reactions, falls []impl.Fall, i int, tick int64) impl.Fall {
	for side := range 4 {
		if !r[i].falls[side] {
			continue
		}
		if by, ok := hitBy(g, r, falls, i, side, tick); ok {
			return fallOf(tick, int8(side), by)
		}
	}
	return stay
}

// playedOut tells how all fall, going through all ticks one by one.
func playedOut(g gameOf) []impl.Fall {
	r := reactionsIn(g.board)
	falls := slices.Repeat([]impl.Fall{stay}, len(g.board.Pieces))
	latest := int64(9 * len(falls))
	for _, p := range g.pushes {
		latest = max(latest, int64(p.Tick)+int64(9*len(falls)))
	}
	for tick := range latest + 1 {
		for i := range falls {
			if falls[i] == stay {
				falls[i] = fallAt(g, r, falls, i, tick)
			}
		}
	}
	return falls
}
