package tests

import (
	"slices"
	"testing"

	"loop.example/g01274/impl"
)

// toldFall tells the fall of a piece by the document's rule of proofs, from those of its neighbours.
func toldFall(g gameOf, r []reactions, falls []impl.Fall, i int) impl.Fall {
	told := stay
	offer := func(f impl.Fall) {
		earlier := f.Tick < told.Tick || f.Tick == told.Tick && f.From < told.From
		pushed := f.Tick == told.Tick && f.From == told.From && f.By == -1
		if r[i].falls[f.From] && (told == stay || earlier || pushed) {
			told = f
		}
	}
	for side, j := range r[i].near {
		if j < 0 || j >= int64(len(falls)) || falls[j].Tick < 0 {
			continue
		}
		if r[j].hits[falls[j].From][(side+2)%4] {
			offer(fallOf(falls[j].Tick+int64(g.board.Pieces[j].Delay), int8(side), j))
		}
	}
	for _, p := range g.pushes {
		if p.At == g.board.Pieces[i].At {
			offer(fallOf(int64(p.Tick), p.Side, -1))
		}
	}
	return told
}

// firstWrongOf returns -1 if falls are a proof.
func firstWrongOf(g gameOf, r []reactions, falls []impl.Fall) int64 {
	for i := range g.board.Pieces {
		if i >= len(falls) || falls[i] != toldFall(g, r, falls, i) {
			return int64(i)
		}
	}
	if len(falls) > len(g.board.Pieces) {
		return int64(len(g.board.Pieces))
	}
	return -1
}

// proofIs fails the test if CheckFalls or FirstWrong do not say that wrong, or none if it is -1, is the first wrong fall.
func proofIs(t *testing.T, name string, g gameOf, falls []impl.Fall, wrong int64) {
	t.Helper()
	ok, c := impl.CheckFalls(g.board, g.pushes, falls)
	code(t, name, c, impl.OK)
	same(t, name+": CheckFalls", ok, wrong < 0)
	first, c := impl.FirstWrong(g.board, g.pushes, falls)
	if wrong < 0 {
		numberFails(t, name+": FirstWrong", first, c, impl.ErrNotFound)
	} else {
		same(t, name+": FirstWrong", []int64{first, c}, []int64{wrong, impl.OK})
	}
}

// otherFalls are falls that differ from one in one field.
func otherFalls(f impl.Fall) []impl.Fall {
	others := []impl.Fall{
		fallOf(f.Tick+1, f.From, f.By), fallOf(f.Tick+9, f.From, f.By), fallOf(f.Tick, (f.From+1)%4, f.By),
		fallOf(f.Tick, (f.From+2)%4, f.By), fallOf(f.Tick, (f.From+3)%4, f.By), fallOf(f.Tick, f.From, f.By+1),
		fallOf(f.Tick, f.From, f.By-1), fallOf(f.Tick, f.From, -1), fallOf(f.Tick, f.From, 1<<32+f.By),
	}
	if f.Tick >= 0 {
		others = append(others, fallOf(f.Tick-1, f.From, f.By), stay, fallOf(-1, f.From, f.By))
	}
	return slices.DeleteFunc(others, func(o impl.Fall) bool { return o == f })
}

// P5: the falls of a board are a proof, and none is when one fall is another one.
func TestFallsAreProofs(t *testing.T) {
	for _, g := range someGames() {
		falls, _ := impl.RunBoard(g.board, g.pushes)
		proofIs(t, "as it falls", g, falls, -1)
		r := reactionsIn(g.board)
		for i, f := range falls[:min(len(falls), 20)] {
			for _, other := range otherFalls(f) {
				changed := slices.Clone(falls)
				changed[i] = other
				wrong := firstWrongOf(g, r, changed)
				same(t, "another fall is wrong", wrong >= 0, true)
				proofIs(t, "another fall", g, changed, wrong)
			}
		}
	}
}

// P5: of all falls that a few pieces may have, those of the board alone are a proof.
func TestNoOtherProofs(t *testing.T) {
	games := []gameOf{
		{rowOf(0, 0), []impl.Push{pushOf(0, 0, west, 0)}},
		{rowOf(0, 0), nil},
		{rowOf(5, 4), []impl.Push{pushOf(1, 0, east, 1), pushOf(0, 0, west, 0)}},
		{rowOf(0, 4), []impl.Push{pushOf(1, 0, north, 1), pushOf(0, 0, west, 0), pushOf(1, 0, west, 1)}},
		{rowOf(5, 5), []impl.Push{pushOf(0, 0, north, 0), pushOf(0, 0, west, 0)}},
		{rowOf(3, 1), []impl.Push{pushOf(1, 0, south, 0), pushOf(0, 0, east, 0)}},
		{boardOf(1, 2, pieceOf(0, 0, 2, 0, 2), pieceOf(0, 1, 2, 1, 1)), []impl.Push{pushOf(0, 0, west, 0)}},
		{boardOf(2, 1, pieceOf(1, 0, 0, 0, 1), pieceOf(0, 0, 0, 0, 1)), []impl.Push{pushOf(0, 0, east, 1)}},
	}
	var all []impl.Fall
	for tick := int64(-1); tick <= 3; tick++ {
		for from := range int8(4) {
			for by := int64(-2); by <= 2; by++ {
				all = append(all, fallOf(tick, from, by))
			}
		}
	}
	for _, g := range games {
		proofs := 0
		for _, one := range all {
			for _, two := range all {
				falls := []impl.Fall{one, two}
				if ok, c := impl.CheckFalls(g.board, g.pushes, falls); ok || c != impl.OK {
					proofs++
					listIs(t, "the only proof", falls, c, playedOut(g)...)
				}
			}
		}
		same(t, "number of proofs", proofs, 1)
	}
}

// Pieces that make each other fall in a circle, or by a fall that cannot be, are no proof.
func TestNoProofFromNothing(t *testing.T) {
	row := gameOf{board: rowOf(0, 0)}
	proofIs(t, "none pushed", row, []impl.Fall{fallOf(0, west, -1), fallOf(1, west, 0)}, 0)
	proofIs(t, "each by the other", row, []impl.Fall{fallOf(2, east, 1), fallOf(1, west, 0)}, 0)
	// A fall from a side from which the piece does not fall hits none.
	proofIs(t, "none hit", row, []impl.Fall{fallOf(0, north, -1), stay}, 0)
	mirrored := gameOf{board: boardOf(2, 1, row.board.Pieces[1], row.board.Pieces[0])}
	proofIs(t, "none hit", mirrored, []impl.Fall{stay, fallOf(0, north, -1)}, 1)
	// With the Tick -1 a piece stays, whatever else is told, and hits none.
	proofIs(t, "stays from the west", mirrored, []impl.Fall{stay, fallOf(-1, west, -1)}, 1)
	proofIs(t, "stays by another one", mirrored, []impl.Fall{stay, fallOf(-1, north, 0)}, 1)
	proofIs(t, "all stay", row, []impl.Fall{stay, stay}, -1)
	proofIs(t, "no pieces", gameOf{board: boardOf(1, 1)}, nil, -1)
}

func TestTooFewFalls(t *testing.T) {
	row := gameOf{rowOf(0, 0, 0), []impl.Push{pushOf(0, 0, west, 0)}}
	falls := playedOut(row)
	proofIs(t, "none of 3", row, nil, 0)
	proofIs(t, "one of 3", row, falls[:1], 1)
	proofIs(t, "two of 3", row, falls[:2], 2)
	proofIs(t, "a wrong one before", row, []impl.Fall{falls[0], fallOf(2, west, 0)}, 1)
	still := gameOf{board: row.board}
	proofIs(t, "the missing one stays", still, []impl.Fall{stay, stay}, 2)
	// The falls of the first ones come from the last one, which has no fall and is taken as staying.
	back := gameOf{row.board, []impl.Push{pushOf(2, 0, east, 0)}}
	proofIs(t, "a neighbour is missing", back, playedOut(back)[:2], 1)
	proofIs(t, "taken as staying", back, []impl.Fall{stay, stay}, 2)
	for _, g := range someGames() {
		falls, r := playedOut(g), reactionsIn(g.board)
		for few := range min(len(falls), 20) {
			proofIs(t, "fewer", g, falls[:few], firstWrongOf(g, r, falls[:few]))
		}
	}
}

func TestTooManyFalls(t *testing.T) {
	row := gameOf{rowOf(0, 0), []impl.Push{pushOf(0, 0, west, 0)}}
	falls := playedOut(row)
	for _, more := range []impl.Fall{stay, fallOf(2, west, 1), fallOf(1000000, south, greatest)} {
		proofIs(t, "one more", row, append(slices.Clone(falls), more), 2)
		proofIs(t, "two more", row, append(slices.Clone(falls), more, more), 2)
		proofIs(t, "a wrong one before", row, []impl.Fall{falls[0], stay, more}, 1)
		proofIs(t, "no pieces", gameOf{board: boardOf(1, 1)}, []impl.Fall{more}, 0)
	}
	proofIs(t, "many more", row, append(slices.Clone(falls), slices.Repeat([]impl.Fall{stay}, 900000)...), 2)
}

func TestFallsNotInRange(t *testing.T) {
	g := gameOf{rowOf(0, 0), []impl.Push{pushOf(0, 0, west, 0)}}
	wrong := []impl.Fall{
		fallOf(-2, west, 0), fallOf(1000001, west, 0), fallOf(least, west, 0), fallOf(greatest, west, 0), fallOf(1<<32, west, 0),
		fallOf(1, -1, 0), fallOf(1, 4, 0), fallOf(1, 127, 0), fallOf(1, -128, 0), fallOf(-1, 4, -1),
	}
	for _, f := range wrong {
		lists := [][]impl.Fall{{f}, {f, fallOf(1, west, 0)}, {fallOf(0, west, -1), f}, {stay, f}, {fallOf(0, west, -1), fallOf(1, west, 0), f}}
		for _, falls := range lists {
			ok, c := impl.CheckFalls(g.board, g.pushes, falls)
			code(t, "CheckFalls", c, impl.ErrRange)
			same(t, "CheckFalls", ok, false)
			i, c := impl.FirstWrong(g.board, g.pushes, falls)
			numberFails(t, "FirstWrong", i, c, impl.ErrRange)
		}
	}
	for _, f := range []impl.Fall{fallOf(1000000, west, 0), fallOf(-1, west, 0), fallOf(1, west, least), fallOf(1, west, greatest), fallOf(1, west, 2)} {
		proofIs(t, "in range, but wrong", g, []impl.Fall{fallOf(0, west, -1), f}, 1)
	}
}

// P5: pushes that are later by some ticks make all fall later by as many.
func TestLaterFalls(t *testing.T) {
	shifted := 0
	for _, g := range someGames() {
		falls, _ := impl.RunBoard(g.board, g.pushes)
		for _, by := range []int64{0, 1, 7, 960, 998, 1000, -1, -2} {
			later, c := impl.LaterPushes(g.pushes, by)
			if c != impl.OK {
				continue
			}
			want := slices.Clone(falls)
			for i, f := range falls {
				if f != stay {
					want[i].Tick += by
					shifted++
				}
			}
			got, c := impl.RunBoard(g.board, later)
			listIs(t, "later", got, c, want...)
			proofIs(t, "later", gameOf{g.board, later}, want, -1)
		}
	}
	if shifted < 1000 {
		t.Errorf("only %d falls are later", shifted)
	}
}
