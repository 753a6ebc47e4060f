package tests

import (
	"testing"

	"loop.example/g01274/impl"
)

func TestHazards(t *testing.T) {
	found := 0
	for _, m := range someMachines(80, impl.MaxInputs) {
		for row := range rowsIn(m) {
			for _, by := range []int64{0, 1, 3, 100} {
				var want []int64
				for i := range m.Inputs {
					if fallenOutputs(m, row, lateChoice(m, 1<<i, by)) != fallenOutputs(m, row, noLate(m)) {
						want = append(want, int64(i))
					}
				}
				if len(want) > 0 {
					found++
				}
				hazards, c := impl.HazardsIn(m, row, by)
				listIs(t, "hazards", hazards, c, want...)
			}
		}
	}
	if found < 50 {
		t.Errorf("only %d rows with hazards", found)
	}
}

// Gates are hit at the ticks 1, 2 and 3: an input that is late by more is one behind which the output falls.
func TestHazardsOfGates(t *testing.T) {
	m := manyInputs(4)
	for by, want := range [][]int64{nil, nil, {1}, {1}, {1}} {
		hazards, c := impl.HazardsIn(m, 3, int64(by))
		listIs(t, "the first gate", hazards, c, want...)
	}
	for by, want := range [][]int64{nil, nil, nil, nil, {3}} {
		hazards, c := impl.HazardsIn(m, 9, int64(by))
		listIs(t, "the last gate", hazards, c, want...)
	}
	// With two gates pushed none alone is a hazard; the first input is none, as all is later with it.
	for _, row := range []int64{0, 1, 2, 7, 11, 13, 14, 15} {
		hazards, c := impl.HazardsIn(m, row, 100)
		listIs(t, "other rows", hazards, c)
	}
	// At one tick the least side comes first, whichever gate it is pushed by.
	early := machineOf(rowOf(impl.PcLine, impl.PcLine, impl.PcGate, impl.PcLine), []impl.Port{portOf(2, 0, west), portOf(2, 0, south)}, cell(3, 0))
	hazards, c := impl.HazardsIn(early, 3, 1)
	listIs(t, "the south comes first at one tick", hazards, c, int64(1))
	early.Inputs[1].Side = east
	hazards, c = impl.HazardsIn(early, 3, 1)
	listIs(t, "the east comes first at one tick", hazards, c, int64(1))
	six, c := impl.HazardsIn(manyInputs(6), 33, 6)
	listIs(t, "more inputs than MaxTried", six, c, int64(5))
}

func TestHazardErrors(t *testing.T) {
	m := withGate()
	for _, row := range []int64{-1, 4, 1 << 32, least, greatest} {
		for _, by := range []int64{0, 2, 101} {
			hazards, c := impl.HazardsIn(m, row, by)
			listFails(t, "no such row", hazards, c, impl.ErrRange)
		}
	}
	for _, by := range []int64{-1, 101, 1 << 16, 1<<32 + 2, least, greatest} {
		for row := range int64(4) {
			hazards, c := impl.HazardsIn(m, row, by)
			listFails(t, "no such by", hazards, c, impl.ErrRange)
		}
	}
	hazards, c := impl.HazardsIn(m, 3, 100)
	listIs(t, "the most", hazards, c, int64(1))
}

// unsteadyAt tells by chapter 2 the first row and choice in which outputs change; it returns false if the machine is steady.
func unsteadyAt(m impl.Machine, by int64) (int64, int64, bool) {
	for row := range rowsIn(m) {
		before := fallenOutputs(m, row, noLate(m))
		for choice := range rowsIn(m) {
			if fallenOutputs(m, row, lateChoice(m, choice, by)) != before {
				return row, choice, true
			}
		}
	}
	return 0, 0, false
}

// P7: a steady machine does the same, whatever inputs are late; one that is not steady does not.
func TestSteadyMachines(t *testing.T) {
	steadyOnes, others := 0, 0
	for _, m := range someMachines(400, impl.MaxTried) {
		for _, by := range []int64{0, 1, 2, 100} {
			wantRow, choice, unsteady := unsteadyAt(m, by)
			steady, c := impl.IsSteady(m, by)
			same(t, "steady", []any{steady, c}, []any{!unsteady, int64(impl.OK)})
			row, late, c := impl.FirstUnsteady(m, by)
			if !unsteady {
				steadyOnes++
				numberFails(t, "steady", row, c, impl.ErrNotFound)
				listFails(t, "steady", late, c, impl.ErrNotFound)
				continue
			}
			others++
			same(t, "the least row", row, wantRow)
			listIs(t, "the first late", late, c, lateChoice(m, choice, by)...)
			outputs, _ := impl.OutputsIn(m, row, late)
			before, _ := impl.OutputsIn(m, row, noLate(m))
			same(t, "outputs change", outputs != before, true)
		}
	}
	if steadyOnes < 50 || others < 50 {
		t.Errorf("only %d steady ones, and %d others", steadyOnes, others)
	}
}

func TestSteadyExamples(t *testing.T) {
	for _, by := range []int64{0, 1, 50, 100} {
		steady, c := impl.IsSteady(threeLines(), by)
		same(t, "one input", []any{steady, c}, []any{true, int64(impl.OK)})
		steady, c = impl.IsSteady(guarded(), by)
		same(t, "a gate of one input", []any{steady, c}, []any{true, int64(impl.OK)})
	}
	for by := range int64(2) {
		steady, c := impl.IsSteady(withGate(), by)
		same(t, "early enough", []any{steady, c}, []any{true, int64(impl.OK)})
	}
	// The gate 1, in the least row, is pushed too late from 2 on.
	m := manyInputs(4)
	for by, want := range [][]int64{2: {0, 2, 0, 0}, 3: {0, 3, 0, 0}, 100: {0, 100, 0, 0}} {
		if want == nil {
			continue
		}
		row, late, c := impl.FirstUnsteady(m, int64(by))
		same(t, "the least row", row, int64(3))
		listIs(t, "late", late, c, want...)
	}
	// In the row 7, which is not the least one, it takes both gates' inputs to be late.
	both := manyInputs(3)
	both.Inputs[0], both.Inputs[2] = both.Inputs[2], both.Inputs[0]
	row, late, c := impl.FirstUnsteady(both, 3)
	same(t, "the least row", row, int64(5))
	listIs(t, "late", late, c, int64(3), 0, 0)
	hazards, c := impl.HazardsIn(both, 7, 3)
	listIs(t, "none alone", hazards, c)
	outputs, c := impl.OutputsIn(both, 7, []int64{3, 3, 0})
	same(t, "both", []int64{outputs, c}, []int64{1, 0})
}

// crossed has two crosses to which the inputs 0 and 1 lead: 0 comes first to the north one, and 1 to the south one.
func crossed() impl.Machine {
	b := boardOf(3, 3,
		pieceOf(0, 1, impl.PcFork, 0, 1), pieceOf(0, 0, impl.PcCorner, 3, 1), pieceOf(0, 2, impl.PcCorner, 2, 9),
		pieceOf(1, 1, impl.PcFork, 0, 5), pieceOf(1, 0, impl.PcCross, 0, 1), pieceOf(1, 2, impl.PcCross, 0, 1),
		pieceOf(2, 0, impl.PcLine, 0, 1), pieceOf(2, 2, impl.PcLine, 0, 1))
	return machineOf(b, []impl.Port{portOf(0, 1, west), portOf(1, 1, west)}, cell(2, 0), cell(2, 2))
}

// Of two inputs that are hazards, the late of the first one is told.
func TestTwoHazards(t *testing.T) {
	m := crossed()
	for late, want := range map[[2]int64]int64{{0, 0}: 1, {6, 0}: 0, {0, 6}: 3, {6, 6}: 1} {
		outputs, c := impl.OutputsIn(m, 3, late[:])
		same(t, "outputs", []int64{outputs, c}, []int64{want, 0})
	}
	for by, want := range map[int64][]int64{0: nil, 2: nil, 3: {0}, 4: {0}, 5: {0}, 6: {0, 1}, 100: {0, 1}} {
		hazards, c := impl.HazardsIn(m, 3, by)
		listIs(t, "hazards", hazards, c, want...)
	}
	row, late, c := impl.FirstUnsteady(m, 6)
	same(t, "the row", row, int64(3))
	listIs(t, "the first one", late, c, int64(6), 0)
	m.Outputs = m.Outputs[1:]
	row, late, c = impl.FirstUnsteady(m, 6)
	same(t, "the row", row, int64(3))
	listIs(t, "the second one", late, c, int64(0), 6)
}

// lateTogether has a gate for the input 1 that the input 2 takes out, if both 0 and 1 are late: 0 keeps it from this, and 1 comes before it.
func lateTogether() impl.Machine {
	b := boardOf(5, 4,
		pieceOf(0, 2, impl.PcFork, 0, 1),
		pieceOf(0, 1, impl.PcCorner, 3, 1), pieceOf(1, 1, impl.PcLine, 0, 1), pieceOf(2, 1, impl.PcGate, 0, 1), pieceOf(3, 1, impl.PcCorner, 0, 1),
		pieceOf(0, 3, impl.PcCorner, 2, 9), pieceOf(1, 3, impl.PcLine, 0, 9), pieceOf(2, 3, impl.PcGate, 0, 1), pieceOf(3, 3, impl.PcLine, 0, 1), pieceOf(4, 3, impl.PcCorner, 1, 1),
		pieceOf(2, 2, impl.PcFork, 0, 1), pieceOf(3, 2, impl.PcGate, 0, 1), pieceOf(4, 2, impl.PcCross, 0, 1))
	return machineOf(b, []impl.Port{portOf(2, 2, west), portOf(3, 2, west), portOf(0, 2, west)}, cell(4, 2))
}

// A machine may be unsteady by two inputs that are late together, though none alone changes anything in any row.
func TestUnsteadyByTwo(t *testing.T) {
	m := lateTogether()
	tables, c := impl.MachineTables(m)
	listIs(t, "tables", tables, c, uint64(0b11011100))
	for _, by := range []int64{5, 6, 18} {
		for row := range int64(8) {
			hazards, c := impl.HazardsIn(m, row, by)
			listIs(t, "none alone", hazards, c)
		}
		row, late, c := impl.FirstUnsteady(m, by)
		same(t, "the row", row, int64(7))
		listIs(t, "two of them", late, c, by, by, 0)
		steady, c := impl.IsSteady(m, by)
		same(t, "not steady", []any{steady, c}, []any{false, int64(impl.OK)})
	}
	for by := range int64(5) {
		steady, c := impl.IsSteady(m, by)
		same(t, "steady", []any{steady, c}, []any{true, int64(impl.OK)})
	}
	row, late, c := impl.FirstUnsteady(m, 19)
	same(t, "a lesser row", row, int64(5))
	listIs(t, "one of them", late, c, int64(19), 0, 0)
}

func TestSteadyErrors(t *testing.T) {
	fails := func(name string, m impl.Machine, by, want int64) {
		t.Helper()
		steady, c := impl.IsSteady(m, by)
		same(t, name, []any{steady, c}, []any{false, want})
		row, late, c := impl.FirstUnsteady(m, by)
		numberFails(t, name, row, c, want)
		listFails(t, name, late, c, want)
	}
	for _, by := range []int64{-1, 101, 1 << 16, 1 << 32, least, greatest} {
		fails("no such by", withGate(), by, impl.ErrRange)
		fails("no such by comes before too many inputs", manyInputs(5), by, impl.ErrRange)
	}
	for _, by := range []int64{0, 1, 100} {
		fails("one input more than MaxTried", manyInputs(5), by, impl.ErrLimit)
		fails("six inputs", manyInputs(6), by, impl.ErrLimit)
		fails("five inputs at two cells", manyParts(60, 5, 1), by, impl.ErrLimit)
	}
	steady, c := impl.IsSteady(manyInputs(4), 100)
	same(t, "as many as MaxTried", []any{steady, c}, []any{false, int64(impl.OK)})
	steady, c = impl.IsSteady(manyInputs(4), 0)
	same(t, "as many as MaxTried", []any{steady, c}, []any{true, int64(impl.OK)})
}
