package tests

import (
	"slices"
	"testing"

	"loop.example/g01274/impl"
)

func TestValidMachine(t *testing.T) {
	for _, m := range someMachines(100, impl.MaxInputs) {
		same(t, "valid", impl.ValidMachine(m), true)
	}
	row := rowOf(0, 0, 0)
	good := []impl.Machine{
		manyParts(60, 6, 8),
		manyParts(1, 4, 1),
		// The same cell from all sides, and the same side at two cells.
		machineOf(row, []impl.Port{portOf(1, 0, north), portOf(1, 0, east), portOf(1, 0, south), portOf(1, 0, west), portOf(0, 0, west)}, cell(0, 0)),
		// An output that is named eight times, and is an input as well.
		machineOf(row, []impl.Port{portOf(1, 0, north)}, slices.Repeat([]impl.Cell{cell(1, 0)}, 8)...),
	}
	for i, m := range good {
		same(t, "good "+string(rune('0'+i)), impl.ValidMachine(m), true)
	}
	for name, m := range badMachines() {
		same(t, name, impl.ValidMachine(m), false)
	}
	same(t, "200 pieces", impl.ValidMachine(machineOf(fullBoard(20, 10, 200), []impl.Port{portOf(0, 0, west)}, cell(0, 0))), false)
	same(t, "six inputs", impl.ValidMachine(manyInputs(6)), true)
}

func TestSameMachine(t *testing.T) {
	one := machineOf(rowOf(0, 4), []impl.Port{portOf(0, 0, west), portOf(1, 0, north)}, cell(1, 0), cell(0, 0))
	copied := func() impl.Machine {
		m := one
		m.Board.Pieces = slices.Clone(one.Board.Pieces)
		m.Inputs, m.Outputs = slices.Clone(one.Inputs), slices.Clone(one.Outputs)
		return m
	}
	changes := []func(m *impl.Machine){
		func(m *impl.Machine) { m.Board.Wide++ },
		func(m *impl.Machine) { m.Board.High++ },
		func(m *impl.Machine) { m.Board.Pieces[1].Delay++ },
		func(m *impl.Machine) { m.Board.Pieces = m.Board.Pieces[:1] },
		func(m *impl.Machine) { m.Inputs[1].At[0]-- },
		func(m *impl.Machine) { m.Inputs[1].Side++ },
		func(m *impl.Machine) { m.Inputs = m.Inputs[:1] },
		func(m *impl.Machine) { slices.Reverse(m.Inputs) },
		func(m *impl.Machine) { m.Outputs[1][1]++ },
		func(m *impl.Machine) { m.Outputs = append(m.Outputs, cell(1, 0)) },
		func(m *impl.Machine) { slices.Reverse(m.Outputs) },
		func(m *impl.Machine) { m.Outputs = nil },
	}
	same(t, "a copy", impl.SameMachine(one, copied()), true)
	for i, change := range changes {
		other := copied()
		change(&other)
		same(t, "changed "+string(rune('a'+i)), impl.SameMachine(one, other), false)
		same(t, "changed "+string(rune('a'+i)), impl.SameMachine(other, one), false)
		same(t, "not valid, maybe", impl.SameMachine(other, other), true)
	}
	empty := impl.Machine{Board: impl.Board{Pieces: []impl.Piece{}}, Inputs: []impl.Port{}, Outputs: []impl.Cell{}}
	same(t, "nil and empty", impl.SameMachine(impl.Machine{}, empty), true)
	for _, m := range badMachines() {
		same(t, "not valid", impl.SameMachine(m, m), true)
	}
}

// The examples at the end of chapter 3.
func TestChapter3Examples(t *testing.T) {
	tables, c := impl.MachineTables(threeLines())
	listIs(t, "three lines", tables, c, uint64(2))
	g := withGate()
	tables, c = impl.MachineTables(g)
	listIs(t, "with the gate", tables, c, uint64(2))
	steady, c := impl.IsSteady(g, 2)
	same(t, "not steady for 2", []any{steady, c}, []any{false, int64(0)})
	row, late, c := impl.FirstUnsteady(g, 2)
	same(t, "the first row", row, int64(3))
	listIs(t, "the first late", late, c, int64(0), 2)
	before, c := impl.OutputsIn(g, 3, []int64{0, 0})
	same(t, "pushed before it is hit", []int64{before, c}, []int64{0, 0})
	behind, c := impl.OutputsIn(g, 3, []int64{0, 2})
	same(t, "hit before it is pushed", []int64{behind, c}, []int64{1, 0})
	loaded, c := impl.LoadedParts(g)
	listIs(t, "loads", loaded, c, int64(2), 3, 1)
	long := threeLines()
	long.Board.Wide = 5
	long.Board.Pieces = append(long.Board.Pieces, pieceOf(4, 0, impl.PcLine, 0, 1))
	useless, c := impl.UselessParts(long)
	listIs(t, "a line that stands alone", useless, c, int64(3))
}

func TestPushesFor(t *testing.T) {
	m := machineOf(rowOf(0, 4, 0), []impl.Port{portOf(2, 0, east), portOf(1, 0, north), portOf(0, 0, west)}, cell(0, 0))
	late := []int64{100, 0, 7}
	all := []impl.Push{pushOf(2, 0, east, 100), pushOf(1, 0, north, 0), pushOf(0, 0, west, 7)}
	wants := [][]impl.Push{nil, {all[0]}, {all[1]}, all[:2], {all[2]}, {all[0], all[2]}, all[1:], all}
	for row, want := range wants {
		pushes, c := impl.PushesFor(m, int64(row), late)
		listIs(t, "pushes", pushes, c, want...)
	}
	for _, m := range someMachines(60, impl.MaxInputs) {
		for row := range rowsIn(m) {
			late := lateChoice(m, row*7, 100)
			pushes, c := impl.PushesFor(m, row, late)
			listIs(t, "pushes", pushes, c, gameIn(m, row, late).pushes...)
			same(t, "valid pushes", impl.ValidPushes(m.Board, pushes), true)
		}
	}
}

// P6: what falls in a row, and when, is what is found by going through all ticks.
func TestOutputsAgainstTicks(t *testing.T) {
	fallen, staying, twice := 0, 0, 0
	for _, m := range someMachines(150, 3) {
		for row := range rowsIn(m) {
			for _, late := range [][]int64{noLate(m), lateChoice(m, row, 1), lateChoice(m, 5*row+1, 3), lateChoice(m, 6, 100)} {
				want := ticksOf(m, playedOut(gameIn(m, row, late)))
				ticks, c := impl.TicksIn(m, row, late)
				listIs(t, "ticks", ticks, c, want...)
				outputs, c := impl.OutputsIn(m, row, late)
				same(t, "outputs", []int64{outputs, c}, []int64{onesOf(want), 0})
				for i, tick := range want {
					if slices.Contains(m.Outputs[:i], m.Outputs[i]) && tick >= 0 {
						twice++
					}
					if tick >= 0 {
						fallen++
					} else {
						staying++
					}
				}
			}
		}
	}
	if fallen < 500 || staying < 500 || twice < 50 {
		t.Errorf("only %d outputs fall, %d stay, and %d are named twice", fallen, staying, twice)
	}
}

// A gate is pushed before it is hit, at the same tick, or behind it; late is told by each input's own number.
func TestLateInputs(t *testing.T) {
	g := withGate()
	cases := []struct {
		row   int64
		late  []int64
		ticks int64
	}{
		{0, []int64{0, 0}, -1}, {0, []int64{100, 100}, -1},
		{1, []int64{0, 0}, 2}, {1, []int64{5, 0}, 7}, {1, []int64{100, 100}, 102},
		{2, []int64{0, 0}, -1}, {2, []int64{0, 100}, -1},
		{3, []int64{0, 0}, -1},
		// The gate is hit from the west at 1; at 1 the north comes first.
		{3, []int64{0, 1}, -1}, {3, []int64{0, 2}, 2}, {3, []int64{0, 100}, 2},
		{3, []int64{98, 100}, 100}, {3, []int64{99, 100}, -1}, {3, []int64{100, 100}, -1}, {3, []int64{100, 0}, -1},
	}
	for _, one := range cases {
		ticks, c := impl.TicksIn(g, one.row, one.late)
		listIs(t, "ticks", ticks, c, one.ticks)
		outputs, c := impl.OutputsIn(g, one.row, one.late)
		same(t, "outputs", []int64{outputs, c}, []int64{min(1, one.ticks+1), 0})
	}
}

// Two inputs at one cell from different sides: the earlier one counts, and at one tick the one from the least side.
func TestTwoInputsAtOneCell(t *testing.T) {
	m := machineOf(rowOf(impl.PcLine, impl.PcCross, impl.PcLine), []impl.Port{portOf(1, 0, west), portOf(1, 0, east)}, cell(0, 0), cell(1, 0), cell(2, 0))
	tables, c := impl.MachineTables(m)
	listIs(t, "tables", tables, c, uint64(0b1100), 0b1110, 0b0010)
	for _, one := range []struct{ late, ticks []int64 }{
		{[]int64{0, 0}, []int64{1, 0, -1}}, {[]int64{0, 1}, []int64{-1, 0, 1}}, {[]int64{1, 0}, []int64{1, 0, -1}}, {[]int64{9, 9}, []int64{10, 9, -1}},
	} {
		ticks, c := impl.TicksIn(m, 3, one.late)
		listIs(t, "ticks", ticks, c, one.ticks...)
	}
	steady, c := impl.IsSteady(m, 1)
	same(t, "not steady", []any{steady, c}, []any{false, int64(0)})
	// From the side from which it cannot fall an input does nothing.
	none := machineOf(rowOf(impl.PcLine), []impl.Port{portOf(0, 0, north), portOf(0, 0, west)}, cell(0, 0), cell(0, 0))
	tables, c = impl.MachineTables(none)
	listIs(t, "named twice", tables, c, uint64(0b1100), 0b1100)
	outputs, c := impl.OutputsIn(none, 2, []int64{0, 0})
	same(t, "named twice", []int64{outputs, c}, []int64{3, 0})
}

// P6: the tables of a machine are what its board does.
func TestMachineTables(t *testing.T) {
	for _, m := range someMachines(120, impl.MaxInputs) {
		want := make([]uint64, len(m.Outputs))
		for row, outputs := range fallenByRow(m) {
			for i := range want {
				want[i] |= uint64(outputs>>i&1) << row
			}
		}
		tables, c := impl.MachineTables(m)
		listIs(t, "tables", tables, c, want...)
	}
	tables, c := impl.MachineTables(manyInputs(6))
	listIs(t, "one row of 64", tables, c, uint64(2))
	last := manyInputs(6)
	last.Outputs = []impl.Cell{cell(5, 0), cell(0, 0)}
	last.Inputs[0], last.Inputs[5] = last.Inputs[5], last.Inputs[0]
	tables, c = impl.MachineTables(last)
	listIs(t, "up to the row 63", tables, c, uint64(0xaaaaaaab_00000000|0xaaaaaaaa), 0xffffffff_00000000)
}

func TestSlowestRow(t *testing.T) {
	none, some := 0, 0
	for _, m := range someMachines(120, impl.MaxInputs) {
		slowest, last := int64(0), int64(-1)
		for row := range rowsIn(m) {
			g := gameIn(m, row, noLate(m))
			falls, _ := impl.RunBoard(g.board, g.pushes)
			for _, tick := range ticksOf(m, falls) {
				if tick > last {
					slowest, last = row, tick
				}
			}
		}
		row, tick, c := impl.SlowestRow(m)
		if last < 0 {
			none++
			same(t, "none ever falls", []int64{row, tick, c}, []int64{0, 0, impl.ErrNotFound})
			continue
		}
		some++
		same(t, "the slowest row", []int64{row, tick, c}, []int64{slowest, last, 0})
	}
	if none < 5 || some < 50 {
		t.Errorf("%d machines without, and %d with a slowest row", none, some)
	}
	row, tick, c := impl.SlowestRow(machineOf(rowOf(0, 0), []impl.Port{portOf(0, 0, north), portOf(1, 0, west)}, cell(1, 0)))
	same(t, "at the tick 0", []int64{row, tick, c}, []int64{2, 0, 0})
}

func TestMachineNeeds(t *testing.T) {
	needed, needless := 0, 0
	for _, m := range someMachines(120, impl.MaxInputs) {
		outputs := fallenByRow(m)
		want := make([]bool, len(m.Inputs))
		for i := range want {
			for row := range outputs {
				if row>>i%2 == 0 && outputs[row] != outputs[row+1<<i] {
					want[i] = true
				}
			}
			if want[i] {
				needed++
			} else {
				needless++
			}
		}
		needs, c := impl.MachineNeeds(m)
		listIs(t, "needs", needs, c, want...)
	}
	if needed < 50 || needless < 50 {
		t.Errorf("only %d inputs are needed, and %d are not", needed, needless)
	}
	// The second input changes when the output falls, but not whether it does.
	sooner := machineOf(rowOf(0, 0, 0), []impl.Port{portOf(0, 0, west), portOf(0, 0, north), portOf(2, 0, east)}, cell(1, 0), cell(0, 0))
	needs, c := impl.MachineNeeds(sooner)
	listIs(t, "needs", needs, c, true, false, true)
}

func TestRowWith(t *testing.T) {
	found, missing := 0, 0
	for _, m := range someMachines(80, impl.MaxInputs) {
		outputs := fallenByRow(m)
		for wanted := range int64(1) << len(m.Outputs) {
			row, c := impl.RowWith(m, wanted)
			want := slices.Index(outputs, wanted)
			if want < 0 {
				missing++
				numberFails(t, "no such row", row, c, impl.ErrNotFound)
				continue
			}
			found++
			same(t, "the least row", []int64{row, c}, []int64{int64(want), 0})
		}
	}
	if found < 100 || missing < 100 {
		t.Errorf("only %d rows are found, and %d are not", found, missing)
	}
}

func TestDifferAt(t *testing.T) {
	machines := someMachines(150, 2)
	equal, apart := 0, 0
	for i, a := range machines {
		for _, b := range machines[:i+1] {
			row, c := impl.DifferAt(a, b)
			if len(a.Inputs) != len(b.Inputs) || len(a.Outputs) != len(b.Outputs) {
				numberFails(t, "other inputs or outputs", row, c, impl.ErrState)
				continue
			}
			want := rowWhereApart(fallenByRow(a), fallenByRow(b))
			if want < 0 {
				equal++
				numberFails(t, "none", row, c, impl.ErrNotFound)
				continue
			}
			apart++
			same(t, "the least row", []int64{row, c}, []int64{want, 0})
			back, c := impl.DifferAt(b, a)
			same(t, "the other way round", []int64{back, c}, []int64{want, 0})
		}
	}
	if equal < 100 || apart < 100 {
		t.Errorf("only %d are equal, and %d are not", equal, apart)
	}
}

func rowWhereApart(a, b []int64) int64 {
	for row := range a {
		if a[row] != b[row] {
			return int64(row)
		}
	}
	return -1
}

// The least row is told, in whichever output they differ, and up to the row 63.
func TestDifferAtOutputs(t *testing.T) {
	m := manyInputs(6)
	m.Outputs = []impl.Cell{cell(0, 0), cell(1, 0), cell(2, 0)}
	other := manyInputs(6)
	other.Outputs = []impl.Cell{cell(0, 0), cell(3, 0), cell(1, 0)}
	row, c := impl.DifferAt(m, other)
	same(t, "in the row 2", []int64{row, c}, []int64{2, 0})
	// The input 5 alone, in the row 32, makes the output of one fall.
	late, never := manyInputs(6), manyInputs(6)
	late.Inputs[0], late.Inputs[5] = late.Inputs[5], late.Inputs[0]
	never.Board.Pieces[6].Turn = 1
	row, c = impl.DifferAt(late, never)
	same(t, "in the row 32", []int64{row, c}, []int64{32, 0})
	same(t, "in the row 3", lastRowApart(), []int64{3, 0})
}

// lastRowApart compares machines that differ in the last row alone: the second input takes the gate out, but not the line.
func lastRowApart() []int64 {
	gate, line := withGate(), withGate()
	line.Board.Pieces[1].Kind = impl.PcLine
	row, c := impl.DifferAt(gate, line)
	return []int64{row, c}
}

// The errors of the functions with a machine: ErrInvalid comes before all others.
func TestInvalidMachines(t *testing.T) {
	good := threeLines()
	for name, m := range badMachines() {
		for _, n := range []int64{0, -1, 1, 101, greatest} {
			for _, late := range [][]int64{nil, {0}, noLate(m), {-1}} {
				pushes, c := impl.PushesFor(m, n, late)
				listFails(t, name+", PushesFor", pushes, c, impl.ErrInvalid)
				outputs, c := impl.OutputsIn(m, n, late)
				numberFails(t, name+", OutputsIn", outputs, c, impl.ErrInvalid)
				ticks, c := impl.TicksIn(m, n, late)
				listFails(t, name+", TicksIn", ticks, c, impl.ErrInvalid)
			}
			row, c := impl.RowWith(m, n)
			numberFails(t, name+", RowWith", row, c, impl.ErrInvalid)
			hazards, c := impl.HazardsIn(m, n, n)
			listFails(t, name+", HazardsIn", hazards, c, impl.ErrInvalid)
			steady, c := impl.IsSteady(m, n)
			same(t, name+", IsSteady", []any{steady, c}, []any{false, int64(impl.ErrInvalid)})
			row, late, c := impl.FirstUnsteady(m, n)
			numberFails(t, name+", FirstUnsteady", row, c, impl.ErrInvalid)
			listFails(t, name+", FirstUnsteady", late, c, impl.ErrInvalid)
			moved, c := impl.MoveMachine(m, n, -n/2)
			machineFails(t, name+", MoveMachine", moved, c, impl.ErrInvalid)
		}
		tables, c := impl.MachineTables(m)
		listFails(t, name+", MachineTables", tables, c, impl.ErrInvalid)
		row, tick, c := impl.SlowestRow(m)
		same(t, name+", SlowestRow", []int64{row, tick, c}, []int64{0, 0, impl.ErrInvalid})
		needs, c := impl.MachineNeeds(m)
		listFails(t, name+", MachineNeeds", needs, c, impl.ErrInvalid)
		for _, pair := range [][2]impl.Machine{{m, good}, {good, m}, {m, m}, {withGate(), m}} {
			row, c := impl.DifferAt(pair[0], pair[1])
			numberFails(t, name+", DifferAt", row, c, impl.ErrInvalid)
		}
		row, c = impl.MachineAgainst(m, impl.Network{})
		numberFails(t, name+", MachineAgainst", row, c, impl.ErrInvalid)
		row, c = impl.MachineAgainst(m, oneInput())
		numberFails(t, name+", MachineAgainst", row, c, impl.ErrInvalid)
		loads, c := impl.LoadedParts(m)
		listFails(t, name+", LoadedParts", loads, c, impl.ErrInvalid)
		useless, c := impl.UselessParts(m)
		listFails(t, name+", UselessParts", useless, c, impl.ErrInvalid)
		pruned, taken, c := impl.PruneMachine(m)
		machineFails(t, name+", PruneMachine", pruned, c, impl.ErrInvalid)
		same(t, name+", PruneMachine", taken, int64(0))
		same(t, name+", MachineText", impl.MachineText(m), "")
	}
}

func TestLateErrors(t *testing.T) {
	fails := func(m impl.Machine, row int64, late ...int64) {
		t.Helper()
		pushes, c := impl.PushesFor(m, row, late)
		listFails(t, "PushesFor", pushes, c, impl.ErrRange)
		outputs, c := impl.OutputsIn(m, row, late)
		numberFails(t, "OutputsIn", outputs, c, impl.ErrRange)
		ticks, c := impl.TicksIn(m, row, late)
		listFails(t, "TicksIn", ticks, c, impl.ErrRange)
	}
	m, six := withGate(), manyInputs(6)
	for _, row := range []int64{-1, 4, 5, 1 << 32, least, greatest} {
		fails(m, row, 0, 0)
		fails(m, row)
	}
	fails(six, 64, 0, 0, 0, 0, 0, 0)
	fails(m, 0)
	fails(m, 3, 0)
	fails(m, 3, 0, 0, 0)
	fails(six, 63, 0, 0, 0, 0, 0)
	for _, ticks := range []int64{-1, 101, 1 << 16, 1 << 32, least, greatest} {
		for row := range int64(4) {
			// Those of inputs that are not pushed are asked, too.
			fails(m, row, ticks, 0)
			fails(m, row, 0, ticks)
		}
	}
	outputs, c := impl.OutputsIn(six, 63, []int64{0, 100, 100, 100, 100, 100})
	same(t, "the last row", []int64{outputs, c}, []int64{1, 0})
}

func TestRowWithErrors(t *testing.T) {
	m := threeLines()
	for _, outputs := range []int64{-1, 2, 3, 1 << 32, least, greatest} {
		row, c := impl.RowWith(m, outputs)
		numberFails(t, "RowWith", row, c, impl.ErrRange)
	}
	eight := manyParts(60, 2, 8)
	for _, outputs := range []int64{256, -256} {
		row, c := impl.RowWith(eight, outputs)
		numberFails(t, "RowWith of eight outputs", row, c, impl.ErrRange)
	}
	row, c := impl.RowWith(eight, 0)
	same(t, "none of eight", []int64{row, c}, []int64{0, 0})
	_, c = impl.RowWith(eight, 255)
	same(t, "a number of eight outputs", c == impl.OK || c == impl.ErrNotFound, true)
	never := machineOf(rowOf(impl.PcLine), []impl.Port{portOf(0, 0, north)}, cell(0, 0))
	row, c = impl.RowWith(never, 1)
	numberFails(t, "an output that never falls", row, c, impl.ErrNotFound)
}
