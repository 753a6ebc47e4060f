package tests

import (
	"testing"

	"loop.example/g01274/impl"
)

func TestLoadedParts(t *testing.T) {
	for _, m := range someMachines(120, impl.MaxInputs) {
		want := make([]int64, len(m.Board.Pieces))
		for row := range rowsIn(m) {
			g := gameIn(m, row, noLate(m))
			falls, _ := impl.RunBoard(g.board, g.pushes)
			for i, f := range falls {
				if f != stay {
					want[i]++
				}
			}
		}
		loads, c := impl.LoadedParts(m)
		listIs(t, "loads", loads, c, want...)
	}
	loads, c := impl.LoadedParts(manyInputs(6))
	listIs(t, "of 64 rows", loads, c, int64(32), 48, 40, 36, 34, 33, 1)
}

func TestUselessParts(t *testing.T) {
	found := 0
	for _, m := range someMachines(60, impl.MaxInputs) {
		want := uselessIn(m)
		found += len(want)
		useless, c := impl.UselessParts(m)
		listIs(t, "useless", useless, c, want...)
	}
	if found < 100 {
		t.Errorf("only %d parts are useless", found)
	}
}

func TestUselessExamples(t *testing.T) {
	for name, m := range map[string]impl.Machine{"three lines": threeLines(), "with the gate": withGate(), "many": manyInputs(6)} {
		useless, c := impl.UselessParts(m)
		listIs(t, name+" are all of use", useless, c)
		pruned, taken, c := impl.PruneMachine(m)
		machineIs(t, name, pruned, c, m)
		same(t, name, taken, int64(0))
	}
	useless, c := impl.UselessParts(twoWays())
	listIs(t, "alone, but not together", useless, c, int64(1), 2, 3, 4)
	useless, c = impl.UselessParts(guarded())
	listIs(t, "the guard is of use", useless, c, int64(2), 3)
	// A part with a port is of use, even if it does nothing: the machine would not be valid.
	ports := machineOf(rowOf(0, 0, 0), []impl.Port{portOf(0, 0, north), portOf(1, 0, west)}, cell(2, 0))
	ports.Inputs[1].At[0] = 2
	useless, c = impl.UselessParts(ports)
	listIs(t, "ports", useless, c, int64(1))
	never := machineOf(rowOf(0, 3, 0, 0), []impl.Port{portOf(0, 0, north)}, cell(3, 0))
	useless, c = impl.UselessParts(never)
	listIs(t, "an output that never falls", useless, c, int64(1), 2)
	// What makes an output fall later, but fall, is useless.
	later := machineOf(rowOf(0, 0), []impl.Port{portOf(0, 0, west), portOf(1, 0, west)}, cell(1, 0))
	later.Board.Wide = 3
	later.Board.Pieces = append(later.Board.Pieces, pieceOf(2, 0, 0, 0, 1))
	useless, c = impl.UselessParts(later)
	listIs(t, "behind the output", useless, c, int64(2))
}

// P8: a machine that is pruned does the same, and none of its parts is useless alone.
func TestPruneMachine(t *testing.T) {
	takenInAll, againEarlier := 0, 0
	for _, m := range someMachines(60, 4) {
		want, count, last := m, int64(0), int64(0)
		for useless := uselessIn(want); len(useless) > 0; useless = uselessIn(want) {
			if useless[0] < last {
				againEarlier++
			}
			last = useless[0]
			want = withoutPart(want, int(useless[0]))
			count++
		}
		takenInAll += int(count)
		pruned, taken, c := impl.PruneMachine(m)
		machineIs(t, "pruned", pruned, c, want)
		same(t, "how many", taken, count)
		same(t, "as many are gone", int64(len(m.Board.Pieces)-len(pruned.Board.Pieces)), taken)
		before, _ := impl.MachineTables(m)
		behind, c := impl.MachineTables(pruned)
		listIs(t, "it does the same", behind, c, before...)
		useless, c := impl.UselessParts(pruned)
		listIs(t, "none is useless", useless, c)
	}
	if takenInAll < 100 || againEarlier == 0 {
		t.Errorf("only %d are taken, and %d times one before the last one", takenInAll, againEarlier)
	}
}

func TestPruneExamples(t *testing.T) {
	// Behind the part 1 of a way the other one is useless, and the second way is of use.
	m := twoWays()
	want := withoutPart(withoutPart(m, 1), 1)
	pruned, taken, c := impl.PruneMachine(m)
	machineIs(t, "one of two ways", pruned, c, want)
	same(t, "one of two ways", taken, int64(2))
	// The guard comes before what it keeps, and is useless only when this is gone.
	m = guarded()
	want = withoutPart(withoutPart(withoutPart(m, 3), 2), 1)
	pruned, taken, c = impl.PruneMachine(m)
	machineIs(t, "the guard, too", pruned, c, want)
	same(t, "the guard, too", taken, int64(3))
	long := threeLines()
	long.Board = boardOf(24, 24, long.Board.Pieces...)
	for i := range 57 {
		long.Board.Pieces = append(long.Board.Pieces, pieceOf(int8(i%24), int8(2+i/24), impl.PcCross, 0, 9))
	}
	pruned, taken, c = impl.PruneMachine(long)
	want = threeLines()
	want.Board.Wide, want.Board.High = 24, 24
	machineIs(t, "as many as MaxParts", pruned, c, want)
	same(t, "as many as MaxParts", taken, int64(57))
}

func TestMoveMachine(t *testing.T) {
	m := twoWays()
	m.Board.Wide, m.Board.High = 5, 6
	moved, c := impl.MoveMachine(m, 3, 2)
	board, _ := impl.MoveBoard(m.Board, 3, 2)
	machineIs(t, "moved", moved, c, machineOf(board, []impl.Port{portOf(3, 3, west)}, cell(4, 3)))
	back, c := impl.MoveMachine(moved, -3, -2)
	machineIs(t, "there and back", back, c, m)
	still, c := impl.MoveMachine(m, 0, 0)
	machineIs(t, "not moved", still, c, m)
	far := machineOf(boardOf(24, 24, pieceOf(0, 23, impl.PcGate, 1, 1)), []impl.Port{portOf(0, 23, west), portOf(0, 23, north)}, cell(0, 23), cell(0, 23))
	moved, c = impl.MoveMachine(far, 23, -23)
	machineIs(t, "far", moved, c, machineOf(boardOf(24, 24, pieceOf(23, 0, impl.PcGate, 1, 1)), []impl.Port{portOf(23, 0, west), portOf(23, 0, north)}, cell(23, 0), cell(23, 0)))
	moves := 0
	for _, m := range someMachines(60, 3) {
		m.Board.Wide, m.Board.High = min(24, m.Board.Wide+1), min(24, m.Board.High+2)
		for _, by := range [][2]int64{{1, 0}, {-1, 1}, {0, -1}, {2, 2}} {
			board, want := impl.MoveBoard(m.Board, by[0], by[1])
			moved, c := impl.MoveMachine(m, by[0], by[1])
			if want != impl.OK {
				machineFails(t, "as for MoveBoard", moved, c, want)
				continue
			}
			moves++
			boardIs(t, "as for MoveBoard", moved.Board, c, board)
			before, _ := impl.MachineTables(m)
			behind, c := impl.MachineTables(moved)
			listIs(t, "it does the same", behind, c, before...)
		}
	}
	if moves < 50 {
		t.Errorf("only %d moves", moves)
	}
}

func TestMoveMachineErrors(t *testing.T) {
	m := threeLines()
	for _, by := range []int64{-25, 25, 256, 1 << 32, least, greatest} {
		for _, other := range []int64{0, 1, by} {
			moved, c := impl.MoveMachine(m, by, other)
			machineFails(t, "too far", moved, c, impl.ErrRange)
			moved, c = impl.MoveMachine(m, other, by)
			machineFails(t, "too far", moved, c, impl.ErrRange)
		}
	}
	for _, by := range [][2]int64{{1, 0}, {-1, 0}, {0, 1}, {0, -1}, {24, 24}, {-24, 24}} {
		moved, c := impl.MoveMachine(m, by[0], by[1])
		machineFails(t, "out of the board", moved, c, impl.ErrState)
	}
}
