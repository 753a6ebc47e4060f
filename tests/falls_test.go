package tests

import (
	"cmp"
	"slices"
	"testing"

	"loop.example/g01274/impl"
)

const (
	north = impl.SdNorth
	east  = impl.SdEast
	south = impl.SdSouth
	west  = impl.SdWest
)

func TestValidPushes(t *testing.T) {
	row := rowOf(0, 0, 0)
	good := [][]impl.Push{
		nil, {}, {pushOf(0, 0, north, 0)}, {pushOf(2, 0, west, 1000), pushOf(2, 0, west, 1000), pushOf(1, 0, south, 3)},
		slices.Repeat([]impl.Push{pushOf(1, 0, east, 8)}, 20),
	}
	for _, list := range good {
		same(t, "valid", impl.ValidPushes(row, list), true)
	}
	for name, list := range badPushes() {
		same(t, name, impl.ValidPushes(row, list), false)
	}
	for name, b := range badBoards() {
		same(t, name, impl.ValidPushes(b, nil), false)
		same(t, name, impl.ValidPushes(b, []impl.Push{pushOf(0, 0, north, 0)}), false)
	}
	gap := boardOf(3, 1, pieceOf(0, 0, 0, 0, 1), pieceOf(2, 0, 0, 0, 1))
	same(t, "empty cell", impl.ValidPushes(gap, []impl.Push{pushOf(1, 0, west, 0)}), false)
	same(t, "beside it", impl.ValidPushes(gap, []impl.Push{pushOf(2, 0, west, 0)}), true)
}

// The examples at the end of chapter 2.
func TestChapter2Examples(t *testing.T) {
	b := rowOf(impl.PcLine, impl.PcLine, impl.PcLine)
	b.Pieces[1].Delay = 2
	falls, c := impl.RunBoard(b, []impl.Push{pushOf(0, 0, west, 0)})
	listIs(t, "three lines", falls, c, fallOf(0, west, -1), fallOf(1, west, 0), fallOf(3, west, 1))
	gate := rowOf(impl.PcLine, impl.PcGate, impl.PcLine)
	falls, c = impl.RunBoard(gate, []impl.Push{pushOf(0, 0, west, 0), pushOf(1, 0, north, 1)})
	listIs(t, "gate", falls, c, fallOf(0, west, -1), fallOf(1, north, -1), stay)
}

// A piece that is hit from several sides at one tick falls from the least one from which it can.
func TestHitsAtOneTick(t *testing.T) {
	sides := []impl.Push{pushOf(0, 0, west, 4), pushOf(0, 0, south, 4), pushOf(0, 0, east, 4), pushOf(0, 0, north, 4)}
	for kind, want := range []int8{east, south, north, west, north, north} {
		b := boardOf(1, 1, pieceOf(0, 0, int8(kind), 0, 1))
		for turn := range 4 {
			falls, c := impl.RunBoard(b, slices.Concat(sides[turn:], sides[:turn]))
			listIs(t, "pushes from all sides", falls, c, fallOf(4, want, -1))
		}
	}
	// A cross amid four lines, all of which hit it at the tick 3.
	around := boardOf(3, 3, pieceOf(0, 1, 0, 0, 1), pieceOf(1, 2, 0, 1, 2), pieceOf(2, 1, 0, 0, 1), pieceOf(1, 0, 0, 1, 2), pieceOf(1, 1, impl.PcCross, 0, 1))
	pushes := []impl.Push{pushOf(0, 1, west, 2), pushOf(1, 2, south, 1), pushOf(2, 1, east, 2), pushOf(1, 0, north, 1)}
	for first, want := range []impl.Fall{fallOf(3, west, 0), fallOf(3, south, 1), fallOf(3, east, 2), fallOf(3, north, 3)} {
		falls, c := impl.RunBoard(around, pushes[:first+1])
		code(t, "lines around", c, impl.OK)
		same(t, "lines around", falls[4], want)
	}
	// One tick earlier comes before a lesser side.
	pushes[0].Tick = 1
	falls, c := impl.RunBoard(around, pushes)
	listIs(t, "the earliest", falls, c, fallOf(1, west, -1), fallOf(1, south, -1), fallOf(2, east, -1), fallOf(1, north, -1), fallOf(2, west, 0))
}

// A piece falls by the push if a piece hits it from the same side at the same tick.
func TestPushAndPieceAtOneTick(t *testing.T) {
	b := rowOf(impl.PcLine, impl.PcLine)
	one, two := pushOf(0, 0, west, 4), pushOf(1, 0, west, 5)
	for _, list := range [][]impl.Push{{one, two}, {two, one}, {two, one, two}} {
		falls, c := impl.RunBoard(b, list)
		listIs(t, "at one tick", falls, c, fallOf(4, west, -1), fallOf(5, west, -1))
		causes, c := impl.CausesOf(b, list, 1)
		listIs(t, "causes", causes, c, int64(1))
	}
	falls, c := impl.RunBoard(b, []impl.Push{one, pushOf(1, 0, west, 6)})
	listIs(t, "the piece first", falls, c, fallOf(4, west, -1), fallOf(5, west, 0))
	falls, c = impl.RunBoard(b, []impl.Push{one, pushOf(1, 0, east, 5)})
	listIs(t, "a push from a lesser side", falls, c, fallOf(4, west, -1), fallOf(5, east, -1))
	mirrored := boardOf(2, 1, b.Pieces[1], b.Pieces[0])
	falls, c = impl.RunBoard(mirrored, []impl.Push{pushOf(0, 0, west, 5), pushOf(1, 0, east, 4)})
	listIs(t, "a piece from a lesser side", falls, c, fallOf(4, east, -1), fallOf(5, east, 0))
}

// A gate that is hit from the side falls, hits none, and is never hit again.
func TestGateFromTheSide(t *testing.T) {
	for turn := range int64(4) {
		for _, side := range []int8{north, south} {
			b, _ := impl.TurnBoard(rowOf(impl.PcLine, impl.PcGate, impl.PcLine), turn)
			across := int8((int64(side) + turn) % 4)
			along := int8((west + turn) % 4)
			first := impl.Push{At: b.Pieces[0].At, Side: along, Tick: 3}
			taken := impl.Push{At: b.Pieces[1].At, Side: across, Tick: 2}
			falls, c := impl.RunBoard(b, []impl.Push{first, taken})
			listIs(t, "taken out", falls, c, fallOf(3, along, -1), fallOf(2, across, -1), stay)
			taken.Tick = 5
			falls, c = impl.RunBoard(b, []impl.Push{first, taken})
			listIs(t, "too late", falls, c, fallOf(3, along, -1), fallOf(4, along, 0), fallOf(5, along, 1))
		}
	}
	// A fork above takes the gate out as well.
	b := boardOf(3, 2, pieceOf(0, 1, 0, 0, 1), pieceOf(1, 1, impl.PcGate, 0, 1), pieceOf(2, 1, 0, 0, 1), pieceOf(1, 0, impl.PcFork, 0, 1))
	falls, c := impl.RunBoard(b, []impl.Push{pushOf(0, 1, west, 0), pushOf(1, 0, west, 0)})
	listIs(t, "by a fork", falls, c, fallOf(0, west, -1), fallOf(1, north, 3), stay, fallOf(0, west, -1))
}

// A piece stays as if it had not been hit where it cannot fall.
func TestPiecesThatStay(t *testing.T) {
	b := rowOf(impl.PcLine, impl.PcOneWay, impl.PcLine)
	falls, c := impl.RunBoard(b, nil)
	listIs(t, "no pushes", falls, c, stay, stay, stay)
	falls, c = impl.RunBoard(b, []impl.Push{pushOf(2, 0, east, 0), pushOf(0, 0, north, 0), pushOf(0, 0, south, 9)})
	listIs(t, "from other sides", falls, c, stay, stay, fallOf(0, east, -1))
	falls, c = impl.RunBoard(b, []impl.Push{pushOf(1, 0, east, 0), pushOf(0, 0, south, 1), pushOf(0, 0, west, 7)})
	listIs(t, "hit again", falls, c, fallOf(7, west, -1), fallOf(8, west, 0), fallOf(9, west, 1))
	ends := boardOf(2, 2, pieceOf(1, 0, 0, 0, 1), pieceOf(0, 1, 0, 0, 1))
	falls, c = impl.RunBoard(ends, []impl.Push{pushOf(1, 0, west, 0)})
	listIs(t, "rows do not run on", falls, c, fallOf(0, west, -1), stay)
	falls, c = impl.RunBoard(boardOf(3, 3), nil)
	listIs(t, "no pieces", falls, c)
}

// In a circle each piece falls once.
func TestCircle(t *testing.T) {
	b := boardOf(2, 2, pieceOf(0, 0, impl.PcCorner, 3, 2), pieceOf(1, 0, impl.PcCorner, 0, 3), pieceOf(1, 1, impl.PcCorner, 1, 1), pieceOf(0, 1, impl.PcCorner, 2, 9))
	falls, c := impl.RunBoard(b, []impl.Push{pushOf(0, 0, south, 10)})
	listIs(t, "circle", falls, c, fallOf(10, south, -1), fallOf(12, west, 0), fallOf(15, north, 1), fallOf(16, east, 2))
	causes, c := impl.CausesOf(b, []impl.Push{pushOf(0, 0, south, 10)}, 3)
	listIs(t, "circle", causes, c, int64(0), 1, 2, 3)
	same(t, "no circle holds itself", falseOK(impl.CheckFalls(b, nil, []impl.Fall{fallOf(10, south, 3), fallOf(12, west, 0), fallOf(15, north, 1), fallOf(16, east, 2)})), true)
}

func falseOK(ok bool, code int64) bool { return !ok && code == impl.OK }

// What is run is what is found by going through all ticks.
func TestRunAgainstTicks(t *testing.T) {
	fallen, tied := 0, 0
	for _, g := range someGames() {
		want := playedOut(g)
		falls, c := impl.RunBoard(g.board, g.pushes)
		listIs(t, "run", falls, c, want...)
		r := reactionsIn(g.board)
		for i, f := range want {
			if f == stay {
				continue
			}
			fallen++
			for side := int(f.From) + 1; side < 4; side++ {
				if _, ok := hitBy(g, r, want, i, side, f.Tick); ok && r[i].falls[side] {
					tied++
				}
			}
		}
	}
	if fallen < 500 || tied < 50 {
		t.Errorf("only %d falls, and %d hits at the tick of another one", fallen, tied)
	}
}

func TestSlowestFalls(t *testing.T) {
	b := boardOf(24, 24)
	for i := range 200 {
		x, y := int8(i%24), int8(i/24)
		if y%2 == 1 {
			x = 23 - x
		}
		p := pieceOf(x, y, impl.PcLine, 0, 9)
		switch {
		case i%24 == 23 && y%2 == 0:
			p.Kind = impl.PcCorner
		case i%24 == 0 && i > 0 && y%2 == 1:
			p.Kind, p.Turn = impl.PcCorner, 1
		case i%24 == 23:
			p.Kind, p.Turn = impl.PcCorner, 3
		case i%24 == 0 && i > 0:
			p.Kind, p.Turn = impl.PcCorner, 2
		}
		b.Pieces = append(b.Pieces, p)
	}
	pushes := []impl.Push{pushOf(0, 0, west, 1000)}
	last, c := impl.LastTick(b, pushes)
	same(t, "the last of 200", []int64{last, c}, []int64{1000 + 199*9, 0})
	causes, c := impl.CausesOf(b, pushes, 199)
	code(t, "all causes", c, impl.OK)
	same(t, "all causes", len(causes), 200)
}

func TestSameFalls(t *testing.T) {
	one := []impl.Fall{fallOf(0, west, -1), stay, fallOf(4, north, 2)}
	same(t, "the same", impl.SameFalls(one, slices.Clone(one)), true)
	same(t, "nil and empty", impl.SameFalls(nil, []impl.Fall{}), true)
	others := [][]impl.Fall{nil, one[:2], append(slices.Clone(one), stay), {one[1], one[0], one[2]}}
	for i := range one {
		for _, f := range []impl.Fall{{Tick: one[i].Tick + 1, From: one[i].From, By: one[i].By}, {Tick: one[i].Tick, From: one[i].From + 1, By: one[i].By}, {Tick: one[i].Tick, From: one[i].From, By: one[i].By + 1}} {
			other := slices.Clone(one)
			other[i] = f
			others = append(others, other)
		}
	}
	for _, other := range others {
		same(t, "other", impl.SameFalls(one, other), false)
		same(t, "other", impl.SameFalls(other, one), false)
	}
	wrong := []impl.Fall{fallOf(least, -128, greatest)}
	same(t, "not in range", impl.SameFalls(wrong, slices.Clone(wrong)), true)
}

func TestQuestionsOfFalls(t *testing.T) {
	for _, g := range someGames() {
		falls := playedOut(g)
		var standing, order []int64
		last := int64(-1)
		for i, f := range falls {
			last = max(last, f.Tick)
			if f == stay {
				standing = append(standing, int64(i))
			} else {
				order = append(order, int64(i))
			}
		}
		slices.SortFunc(order, func(i, j int64) int {
			return cmp.Or(cmp.Compare(falls[i].Tick, falls[j].Tick), cmp.Compare(i, j))
		})
		got, c := impl.StandingAfter(g.board, g.pushes)
		listIs(t, "StandingAfter", got, c, standing...)
		got, c = impl.FallOrder(g.board, g.pushes)
		listIs(t, "FallOrder", got, c, order...)
		gotLast, c := impl.LastTick(g.board, g.pushes)
		if last < 0 {
			numberFails(t, "LastTick", gotLast, c, impl.ErrNotFound)
		} else {
			same(t, "LastTick", []int64{gotLast, c}, []int64{last, 0})
		}
		for _, tick := range []int64{0, 1, 2, 3, 5, last - 1, last, last + 1, 1000000} {
			if tick < 0 {
				continue
			}
			var until []int64
			for i, f := range falls {
				if f != stay && f.Tick <= tick {
					until = append(until, int64(i))
				}
			}
			got, c = impl.FallenUntil(g.board, g.pushes, tick)
			listIs(t, "FallenUntil", got, c, until...)
		}
	}
}

func TestFallenUntilOnce(t *testing.T) {
	b, list := rowOf(0, 0, 0), []impl.Push{pushOf(2, 0, east, 2)}
	for tick, want := range [][]int64{nil, nil, {2}, {1, 2}, {0, 1, 2}, {0, 1, 2}} {
		got, c := impl.FallenUntil(b, list, int64(tick))
		listIs(t, "FallenUntil", got, c, want...)
	}
	order, c := impl.FallOrder(b, list)
	listIs(t, "FallOrder", order, c, int64(2), 1, 0)
	both := []impl.Push{pushOf(2, 0, east, 2), pushOf(0, 0, west, 2)}
	order, c = impl.FallOrder(b, both)
	listIs(t, "FallOrder at one tick", order, c, int64(0), 2, 1)
}

// P4: causes lead from a push to each piece that falls, and each one hits the next one in its delay.
func TestCauses(t *testing.T) {
	longest := 0
	for _, g := range someGames() {
		falls, _ := impl.RunBoard(g.board, g.pushes)
		r := reactionsIn(g.board)
		for i, f := range falls {
			causes, c := impl.CausesOf(g.board, g.pushes, int64(i))
			if f == stay {
				listFails(t, "it stays", causes, c, impl.ErrNotFound)
				continue
			}
			code(t, "causes", c, impl.OK)
			longest = max(longest, len(causes))
			checkCauses(t, g, r, falls, int64(i), causes)
		}
	}
	if longest < 8 {
		t.Errorf("at most %d causes", longest)
	}
}

func checkCauses(t *testing.T, g gameOf, r []reactions, falls []impl.Fall, i int64, causes []int64) {
	t.Helper()
	if len(causes) == 0 || causes[len(causes)-1] != i {
		t.Errorf("the causes %v do not lead to %d", causes, i)
		return
	}
	first := falls[causes[0]]
	push := impl.Push{At: g.board.Pieces[causes[0]].At, Side: first.From, Tick: int16(first.Tick)}
	same(t, "the first one is pushed", slices.Contains(g.pushes, push), true)
	same(t, "the first one falls from the push", r[causes[0]].falls[first.From], true)
	for k, j := range causes[1:] {
		before := causes[k]
		one, two := falls[before], falls[j]
		same(t, "a neighbour", r[j].near[two.From], before)
		same(t, "hits it", r[before].hits[one.From][(two.From+2)%4], true)
		same(t, "it falls", r[j].falls[two.From], true)
		same(t, "in its delay", two.Tick, one.Tick+int64(g.board.Pieces[before].Delay))
		same(t, "by it", two.By, before)
	}
}

// All functions with a board and pushes return ErrInvalid first if one of both is not valid.
func TestInvalidGames(t *testing.T) {
	for name, b := range badBoards() {
		invalidGame(t, name, b, nil)
		invalidGame(t, name, b, []impl.Push{pushOf(0, 0, north, 0)})
		for _, i := range []int64{0, -1, greatest} {
			for _, side := range []int64{0, 4} {
				falls, c := impl.PushOne(b, i, side)
				listFails(t, name+", PushOne", falls, c, impl.ErrInvalid)
				count, c := impl.CountFrom(b, i, side)
				numberFails(t, name+", CountFrom", count, c, impl.ErrInvalid)
			}
		}
		never, c := impl.NeverHit(b)
		listFails(t, name+", NeverHit", never, c, impl.ErrInvalid)
	}
	for name, list := range badPushes() {
		invalidGame(t, name, rowOf(0, 0, 0), list)
	}
}

func invalidGame(t *testing.T, name string, b impl.Board, list []impl.Push) {
	t.Helper()
	falls, c := impl.RunBoard(b, list)
	listFails(t, name+", RunBoard", falls, c, impl.ErrInvalid)
	standing, c := impl.StandingAfter(b, list)
	listFails(t, name+", StandingAfter", standing, c, impl.ErrInvalid)
	order, c := impl.FallOrder(b, list)
	listFails(t, name+", FallOrder", order, c, impl.ErrInvalid)
	last, c := impl.LastTick(b, list)
	numberFails(t, name+", LastTick", last, c, impl.ErrInvalid)
	for _, wrong := range []int64{0, -1, 1000001} {
		until, c := impl.FallenUntil(b, list, wrong)
		listFails(t, name+", FallenUntil", until, c, impl.ErrInvalid)
		causes, c := impl.CausesOf(b, list, wrong)
		listFails(t, name+", CausesOf", causes, c, impl.ErrInvalid)
		picture, c := impl.FallPicture(b, list, wrong)
		listFails(t, name+", FallPicture", picture, c, impl.ErrInvalid)
		for _, falls := range [][]impl.Fall{nil, slices.Repeat([]impl.Fall{stay}, len(b.Pieces)), {fallOf(wrong, 4, 0)}} {
			ok, c := impl.CheckFalls(b, list, falls)
			code(t, name+", CheckFalls", c, impl.ErrInvalid)
			same(t, name+", CheckFalls", ok, false)
			i, c := impl.FirstWrong(b, list, falls)
			numberFails(t, name+", FirstWrong", i, c, impl.ErrInvalid)
		}
	}
}

func TestFallErrors(t *testing.T) {
	b, list := rowOf(0, 0, 0), []impl.Push{pushOf(0, 0, west, 0)}
	for _, tick := range []int64{-1, 1000001, 1 << 32, least, greatest} {
		until, c := impl.FallenUntil(b, list, tick)
		listFails(t, "FallenUntil", until, c, impl.ErrRange)
		picture, c := impl.FallPicture(b, list, tick)
		listFails(t, "FallPicture", picture, c, impl.ErrRange)
	}
	for _, i := range []int64{-1, 3, 256, 1 << 32, least, greatest} {
		for _, pushes := range [][]impl.Push{list, nil} {
			causes, c := impl.CausesOf(b, pushes, i)
			listFails(t, "no piece, which comes before that it stays", causes, c, impl.ErrRange)
		}
	}
	for i := range int64(3) {
		causes, c := impl.CausesOf(b, nil, i)
		listFails(t, "it stays", causes, c, impl.ErrNotFound)
	}
	causes, c := impl.CausesOf(boardOf(1, 1), nil, 0)
	listFails(t, "no pieces", causes, c, impl.ErrRange)
	for _, pushes := range [][]impl.Push{nil, {pushOf(1, 0, north, 0)}} {
		last, c := impl.LastTick(b, pushes)
		numberFails(t, "none falls", last, c, impl.ErrNotFound)
	}
	last, c := impl.LastTick(boardOf(1, 1), nil)
	numberFails(t, "no pieces", last, c, impl.ErrNotFound)
	last, c = impl.LastTick(b, []impl.Push{pushOf(2, 0, west, 0)})
	same(t, "at the tick 0", []int64{last, c}, []int64{0, 0})
}
