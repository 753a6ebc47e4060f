package tests

import (
	"slices"
	"testing"

	"loop.example/g01274/impl"
)

func TestPushOne(t *testing.T) {
	for _, g := range someGames()[:80] {
		for i, p := range g.board.Pieces[:min(5, len(g.board.Pieces))] {
			for side := range int64(4) {
				alone := gameOf{g.board, []impl.Push{{At: p.At, Side: int8(side)}}}
				want := playedOut(alone)
				falls, c := impl.PushOne(g.board, int64(i), side)
				listIs(t, "PushOne", falls, c, want...)
				fallen := int64(0)
				for _, f := range want {
					if f != stay {
						fallen++
					}
				}
				count, c := impl.CountFrom(g.board, int64(i), side)
				same(t, "CountFrom", []int64{count, c}, []int64{fallen, 0})
			}
		}
	}
	row := rowOf(impl.PcLine, impl.PcOneWay, impl.PcLine, impl.PcCorner)
	for i, want := range [][4]int64{{0, 1, 0, 4}, {0, 0, 0, 3}, {0, 1, 0, 2}, {0, 0, 2, 1}} {
		for side := range int64(4) {
			count, c := impl.CountFrom(row, int64(i), side)
			same(t, "counts", []int64{int64(i), side, count, c}, []int64{int64(i), side, want[side], 0})
		}
	}
}

func TestPushOneErrors(t *testing.T) {
	b := rowOf(0, 0, 0)
	fails := func(b impl.Board, i, side int64) {
		t.Helper()
		falls, c := impl.PushOne(b, i, side)
		listFails(t, "PushOne", falls, c, impl.ErrRange)
		count, c := impl.CountFrom(b, i, side)
		numberFails(t, "CountFrom", count, c, impl.ErrRange)
	}
	for _, i := range []int64{-1, 3, 256, 1 << 32, least, greatest} {
		fails(b, i, west)
		fails(b, i, 4)
	}
	for _, side := range []int64{-1, 4, 255, 256, 259, 1 << 32, least, greatest} {
		fails(b, 0, side)
	}
	fails(boardOf(3, 3), 0, 0)
}

func TestNeverHit(t *testing.T) {
	cases := []struct {
		board impl.Board
		want  []int64
	}{
		{boardOf(2, 2), nil},
		{rowOf(impl.PcLine), []int64{0}},
		{rowOf(impl.PcLine, impl.PcLine), nil},
		{rowOf(impl.PcLine, impl.PcOneWay, impl.PcLine, impl.PcCorner), []int64{0}},
		{rowOf(impl.PcOneWay, impl.PcOneWay), []int64{0}},
		// The first one hits, but the second one does not fall from there.
		{boardOf(2, 1, pieceOf(0, 0, 0, 0, 1), pieceOf(1, 0, 0, 1, 1)), []int64{0, 1}},
		// The second one falls from there, but is not hit; it hits the gate.
		{boardOf(2, 1, pieceOf(0, 0, impl.PcGate, 1, 1), pieceOf(1, 0, impl.PcLine, 0, 1)), []int64{1}},
		// The pieces are not beside each other.
		{boardOf(2, 2, pieceOf(1, 0, 5, 0, 1), pieceOf(0, 1, 5, 0, 1)), []int64{0, 1}},
		// It is hit, though the one that hits it can itself never be hit.
		{rowOf(impl.PcLine, impl.PcGate, impl.PcOneWay), nil},
	}
	for _, one := range cases {
		never, c := impl.NeverHit(one.board)
		listIs(t, "NeverHit", never, c, one.want...)
	}
}

func TestNeverHitByRule(t *testing.T) {
	found := 0
	for _, g := range someGames() {
		r := reactionsIn(g.board)
		var want []int64
		for i := range g.board.Pieces {
			if !canBeHit(r, i) {
				want = append(want, int64(i))
			}
		}
		found += len(want)
		never, c := impl.NeverHit(g.board)
		listIs(t, "NeverHit", never, c, want...)
		falls, _ := impl.RunBoard(g.board, g.pushes)
		for _, i := range never {
			same(t, "by a push, if at all", falls[i].By, int64(-1))
		}
	}
	if found < 100 {
		t.Errorf("only %d pieces are never hit", found)
	}
}

func canBeHit(r []reactions, i int) bool {
	for side, j := range r[i].near {
		if j < 0 || !r[i].falls[side] {
			continue
		}
		for from := range 4 {
			if r[j].falls[from] && r[j].hits[from][(side+2)%4] {
				return true
			}
		}
	}
	return false
}

func TestLaterPushes(t *testing.T) {
	list := []impl.Push{pushOf(1, 2, east, 5), pushOf(-128, 127, 99, 990), pushOf(0, 0, -5, 7)}
	later, c := impl.LaterPushes(list, 10)
	listIs(t, "later, wherever they are", later, c, pushOf(1, 2, east, 15), pushOf(-128, 127, 99, 1000), pushOf(0, 0, -5, 17))
	earlier, c := impl.LaterPushes(list, -5)
	listIs(t, "earlier", earlier, c, pushOf(1, 2, east, 0), pushOf(-128, 127, 99, 985), pushOf(0, 0, -5, 2))
	kept, c := impl.LaterPushes(list, 0)
	listIs(t, "as they were", kept, c, list...)
	farthest, c := impl.LaterPushes([]impl.Push{pushOf(0, 0, 0, 0)}, 1000)
	listIs(t, "by the most", farthest, c, pushOf(0, 0, 0, 1000))
	back, c := impl.LaterPushes(farthest, -1000)
	listIs(t, "by the least", back, c, pushOf(0, 0, 0, 0))
	for _, by := range []int64{-1000, 0, 1000} {
		none, c := impl.LaterPushes(nil, by)
		listIs(t, "none", none, c)
	}
	most, c := impl.LaterPushes(slices.Repeat([]impl.Push{pushOf(0, 0, 0, 1)}, 20), 1)
	listIs(t, "the most pushes", most, c, slices.Repeat([]impl.Push{pushOf(0, 0, 0, 2)}, 20)...)
}

func TestLaterPushesErrors(t *testing.T) {
	far := slices.Repeat([]impl.Push{pushOf(0, 0, 0, 5)}, 21)
	lists := [][]impl.Push{
		far, {pushOf(0, 0, 0, -1)}, {pushOf(0, 0, 0, 1001)}, {pushOf(0, 0, 0, 5), pushOf(0, 0, 0, 32767)}, {pushOf(0, 0, 0, -32768)},
	}
	for _, by := range []int64{-1001, 1001, 1 << 16, 1 << 32, least, greatest} {
		for _, list := range append(lists, nil, []impl.Push{pushOf(0, 0, 0, 5)}) {
			later, c := impl.LaterPushes(list, by)
			listFails(t, "too far, before all else", later, c, impl.ErrRange)
		}
	}
	for _, by := range []int64{-3, -1, 0, 1, 3} {
		for _, list := range lists {
			later, c := impl.LaterPushes(list, by)
			listFails(t, "too many, or a tick that is none before", later, c, impl.ErrLimit)
		}
	}
	behind := []struct {
		tick int16
		by   int64
	}{{0, -1}, {1000, 1}, {999, 2}, {5, -6}, {1, 1000}, {999, -1000}}
	for _, one := range behind {
		for _, list := range [][]impl.Push{{pushOf(0, 0, 0, one.tick)}, {pushOf(0, 0, 0, 500), pushOf(0, 0, 0, one.tick)}} {
			later, c := impl.LaterPushes(list, one.by)
			listFails(t, "a tick that is none behind", later, c, impl.ErrLimit)
		}
	}
	// These come back to a tick, but are none before.
	for _, one := range behind[:4] {
		later, c := impl.LaterPushes([]impl.Push{pushOf(0, 0, 0, one.tick+int16(one.by))}, -one.by)
		listFails(t, "a tick that is none before", later, c, impl.ErrLimit)
	}
}

func TestFallPicture(t *testing.T) {
	b := boardOf(4, 2, pieceOf(0, 0, impl.PcLine, 0, 1), pieceOf(1, 0, impl.PcFork, 0, 2), pieceOf(1, 1, impl.PcGate, 0, 1), pieceOf(3, 1, impl.PcCross, 0, 1))
	list := []impl.Push{pushOf(0, 0, west, 1)}
	for tick, want := range [][]string{{"lf..", ".g.x"}, {"*f..", ".g.x"}, {"**..", ".g.x"}, {"**..", ".g.x"}, {"**..", ".*.x"}, {"**..", ".*.x"}} {
		picture, c := impl.FallPicture(b, list, int64(tick))
		listIs(t, "picture", picture, c, want...)
	}
	picture, c := impl.FallPicture(b, list, 1000000)
	listIs(t, "in the end", picture, c, "**..", ".*.x")
	for _, g := range someGames()[:40] {
		for _, tick := range []int64{0, 3, 1000000} {
			want, _ := impl.BoardPicture(g.board)
			for i, f := range playedOut(g) {
				if f != stay && f.Tick <= tick {
					at := g.board.Pieces[i].At
					row := want[at[1]]
					want[at[1]] = row[:at[0]] + "*" + row[at[0]+1:]
				}
			}
			picture, c := impl.FallPicture(g.board, g.pushes, tick)
			listIs(t, "picture", picture, c, want...)
		}
	}
}
