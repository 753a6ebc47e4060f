package tests

import (
	"slices"
	"testing"

	"loop.example/g01274/impl"
)

func portOf(x, y, side int8) impl.Port { return impl.Port{At: cell(x, y), Side: side} }

func machineOf(b impl.Board, inputs []impl.Port, outputs ...impl.Cell) impl.Machine {
	return impl.Machine{Board: b, Inputs: inputs, Outputs: outputs}
}

// threeLines is the first machine of the examples of chapter 3.
func threeLines() impl.Machine {
	return machineOf(rowOf(0, 0, 0), []impl.Port{portOf(0, 0, west)}, cell(2, 0))
}

// withGate is the second machine of the examples of chapter 3.
func withGate() impl.Machine {
	return machineOf(rowOf(impl.PcLine, impl.PcGate, impl.PcLine), []impl.Port{portOf(0, 0, west), portOf(1, 0, north)}, cell(2, 0))
}

// twoWays leads from an input to an output by two ways of two parts each: 1 and 2, and 3 and 4.
func twoWays() impl.Machine {
	b := boardOf(2, 3,
		pieceOf(0, 1, impl.PcFork, 0, 1),
		pieceOf(0, 0, impl.PcCorner, 3, 1), pieceOf(1, 0, impl.PcCorner, 0, 1),
		pieceOf(0, 2, impl.PcCorner, 2, 1), pieceOf(1, 2, impl.PcCorner, 1, 1),
		pieceOf(1, 1, impl.PcLine, 1, 1))
	return machineOf(b, []impl.Port{portOf(0, 1, west)}, cell(1, 1))
}

// guarded has the part 1 that keeps the gate 3 from carrying what comes by 2: it is of use as long as 2 and 3 are there.
func guarded() impl.Machine {
	b := boardOf(3, 2,
		pieceOf(0, 0, impl.PcFork, 3, 1), pieceOf(1, 0, impl.PcCorner, 0, 1),
		pieceOf(0, 1, impl.PcCorner, 2, 1), pieceOf(1, 1, impl.PcGate, 0, 1), pieceOf(2, 1, impl.PcLine, 0, 1))
	return machineOf(b, []impl.Port{portOf(0, 0, west)}, cell(2, 1))
}

// manyInputs has a line that the first input pushes, a gate for each other input, which pushes it from the north, and a line as the output.
func manyInputs(count int) impl.Machine {
	kinds := slices.Repeat([]int8{impl.PcGate}, count+1)
	kinds[0], kinds[count] = impl.PcLine, impl.PcLine
	m := machineOf(rowOf(kinds...), []impl.Port{portOf(0, 0, west)}, cell(int8(count), 0))
	for x := 1; x < count; x++ {
		m.Inputs = append(m.Inputs, portOf(int8(x), 0, north))
	}
	return m
}

// manyParts has so many parts, a port of each side at the first cell, and each of the first cells as outputs.
func manyParts(parts, inputs, outputs int) impl.Machine {
	m := machineOf(fullBoard(12, 6, parts), nil)
	for i := range inputs {
		m.Inputs = append(m.Inputs, portOf(int8(i/4), 0, int8(i%4)))
	}
	for i := range outputs {
		m.Outputs = append(m.Outputs, cell(int8(i%3), int8(i/3)))
	}
	return m
}

// chanceMachine is a machine on a board by chance; ports are often at one cell, and outputs often the same.
func chanceMachine(d *dice, most int) impl.Machine {
	m := impl.Machine{}
	for len(m.Board.Pieces) == 0 {
		m.Board = chanceGame(d).board
	}
	pieces := m.Board.Pieces
	for range 1 + d.upTo(most) {
		p := pieces[d.upTo(len(pieces))]
		if len(m.Inputs) > 0 && d.upTo(3) == 0 {
			p = pieces[indexIn(m.Board, m.Inputs[0].At)]
		}
		port := impl.Port{At: p.At, Side: int8(d.upTo(4))}
		if falls, _ := impl.FallsFrom(p, int64(port.Side)); !falls && d.upTo(4) > 0 {
			port.Side = (port.Side + 1) % 4
		}
		if !slices.Contains(m.Inputs, port) {
			m.Inputs = append(m.Inputs, port)
		}
	}
	for range 1 + d.upTo(4) {
		m.Outputs = append(m.Outputs, pieces[d.upTo(len(pieces))].At)
	}
	return m
}

func indexIn(b impl.Board, c impl.Cell) int {
	return slices.IndexFunc(b.Pieces, func(p impl.Piece) bool { return p.At == c })
}

// someMachines are valid machines; those by chance have at most so many inputs.
func someMachines(chance, most int) []impl.Machine {
	machines := []impl.Machine{
		threeLines(), withGate(), twoWays(), guarded(), crossed(), lateTogether(), manyInputs(2), manyInputs(4),
		machineOf(rowOf(impl.PcCross), []impl.Port{portOf(0, 0, east), portOf(0, 0, west)}, cell(0, 0)),
		machineOf(rowOf(impl.PcLine, impl.PcOneWay), []impl.Port{portOf(1, 0, east)}, cell(0, 0), cell(0, 0)),
		manyParts(60, 3, 8),
	}
	if most == impl.MaxInputs {
		machines = append(machines, manyInputs(6), manyParts(60, 6, 8))
	}
	d := dice(11)
	for range chance {
		machines = append(machines, chanceMachine(&d, most))
	}
	return machines
}

// badMachines are invalid, each for one reason.
func badMachines() map[string]impl.Machine {
	in, out := []impl.Port{portOf(0, 0, west)}, cell(2, 0)
	row := rowOf(0, 0, 0)
	all := map[string]impl.Machine{
		"zero":              {},
		"too many parts":    manyParts(61, 1, 1),
		"no inputs":         machineOf(row, nil, out),
		"too many inputs":   manyInputs(7),
		"far too many":      machineOf(row, slices.Repeat(in, 1000), out),
		"the same input":    machineOf(row, []impl.Port{in[0], portOf(0, 0, east), in[0]}, out),
		"side below":        machineOf(row, []impl.Port{portOf(0, 0, -1)}, out),
		"side above":        machineOf(row, []impl.Port{in[0], portOf(0, 0, 4)}, out),
		"least side":        machineOf(row, []impl.Port{portOf(0, 0, -128)}, out),
		"input outside":     machineOf(row, []impl.Port{in[0], portOf(3, 0, west)}, out),
		"input far away":    machineOf(row, []impl.Port{portOf(-128, 127, west)}, out),
		"no outputs":        machineOf(row, in),
		"too many outputs":  machineOf(row, in, slices.Repeat([]impl.Cell{out}, 9)...),
		"outputs far over":  machineOf(row, in, slices.Repeat([]impl.Cell{out}, 5000)...),
		"output outside":    machineOf(row, in, out, cell(0, 1)),
		"output far away":   machineOf(row, in, cell(127, -128)),
		"input at no piece": machineOf(boardOf(2, 1, pieceOf(0, 0, 0, 0, 1)), []impl.Port{portOf(1, 0, west)}, cell(0, 0)),
		"output at none":    machineOf(boardOf(2, 1, pieceOf(0, 0, 0, 0, 1)), in, cell(1, 0)),
	}
	for name, b := range badBoards() {
		all["board: "+name] = machineOf(b, in, cell(0, 0))
	}
	return all
}

func noLate(m impl.Machine) []int64 { return make([]int64, len(m.Inputs)) }

func rowsIn(m impl.Machine) int64 { return int64(1) << len(m.Inputs) }

// lateChoice makes the inputs with a 1 in choice late by so many ticks.
func lateChoice(m impl.Machine, choice, by int64) []int64 {
	late := noLate(m)
	for i := range late {
		late[i] = choice >> i % 2 * by
	}
	return late
}

// gameIn is the board of a machine with the pushes of a row, made by hand.
func gameIn(m impl.Machine, row int64, late []int64) gameOf {
	g := gameOf{board: m.Board}
	for i, in := range m.Inputs {
		if row>>i%2 == 1 {
			g.pushes = append(g.pushes, impl.Push{At: in.At, Side: in.Side, Tick: int16(late[i])})
		}
	}
	return g
}

// ticksOf tells for each output when it falls, -1 if it stays.
func ticksOf(m impl.Machine, falls []impl.Fall) []int64 {
	var ticks []int64
	for _, out := range m.Outputs {
		for i, p := range m.Board.Pieces {
			if p.At == out {
				ticks = append(ticks, falls[i].Tick)
			}
		}
	}
	return ticks
}

// onesOf is the number with a 1 for each tick of one that falls.
func onesOf(ticks []int64) int64 {
	ones := int64(0)
	for i, tick := range ticks {
		if tick >= 0 {
			ones += int64(1) << i
		}
	}
	return ones
}

// fallenOutputs tells by chapter 2 which outputs fall.
func fallenOutputs(m impl.Machine, row int64, late []int64) int64 {
	g := gameIn(m, row, late)
	falls, _ := impl.RunBoard(g.board, g.pushes)
	return onesOf(ticksOf(m, falls))
}

// fallenByRow tells by chapter 2 which outputs fall in each row, without inputs that are late.
func fallenByRow(m impl.Machine) []int64 {
	var all []int64
	for row := range rowsIn(m) {
		all = append(all, fallenOutputs(m, row, noLate(m)))
	}
	return all
}

// withoutPart is the machine without a part, which may not be valid.
func withoutPart(m impl.Machine, part int) impl.Machine {
	m.Board.Pieces = slices.Delete(slices.Clone(m.Board.Pieces), part, part+1)
	return m
}

func isPort(m impl.Machine, c impl.Cell) bool {
	return slices.Contains(m.Outputs, c) || slices.ContainsFunc(m.Inputs, func(in impl.Port) bool { return in.At == c })
}

// uselessIn tells by chapter 2 which parts are useless.
func uselessIn(m impl.Machine) []int64 {
	var useless []int64
	before := fallenByRow(m)
	for part, p := range m.Board.Pieces {
		if !isPort(m, p.At) && slices.Equal(fallenByRow(withoutPart(m, part)), before) {
			useless = append(useless, int64(part))
		}
	}
	return useless
}

// machineIs fails the test if a machine, with its code OK, is not the one that is wanted.
func machineIs(t *testing.T, name string, got impl.Machine, gotCode int64, want impl.Machine) {
	t.Helper()
	boardIs(t, name, got.Board, gotCode, want.Board)
	if !slices.Equal(got.Inputs, want.Inputs) || !slices.Equal(got.Outputs, want.Outputs) {
		t.Errorf("%s: got %v, want %v", name, got, want)
	}
}

// machineFails fails the test if there is no such code, or a machine beside it.
func machineFails(t *testing.T, name string, got impl.Machine, gotCode, want int64) {
	t.Helper()
	boardFails(t, name, got.Board, gotCode, want)
	if len(got.Inputs) != 0 || len(got.Outputs) != 0 {
		t.Errorf("%s: got %v beside the code %s", name, got, impl.CodeName(gotCode))
	}
}
