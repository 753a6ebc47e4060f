package tests

import (
	"reflect"
	"slices"
	"sync"
	"testing"

	"loop.example/g01274/impl"
)

// evenMachine makes nil lists empty.
func evenMachine(m impl.Machine) impl.Machine {
	m.Board.Pieces = append([]impl.Piece{}, m.Board.Pieces...)
	m.Inputs = append([]impl.Port{}, m.Inputs...)
	m.Outputs = append([]impl.Cell{}, m.Outputs...)
	return m
}

// even makes nil lists empty, also those of a machine or a network.
func even(result any) any {
	switch result := result.(type) {
	case impl.Machine:
		return evenMachine(result)
	case impl.Network:
		return evenNet(result)
	}
	if v := reflect.ValueOf(result); v.Kind() == reflect.Slice && v.Len() == 0 {
		return reflect.MakeSlice(v.Type(), 0, 0).Interface()
	}
	return result
}

// chapter3 calls every function of the chapter, and returns the results of each call that has a code, with this behind them.
func chapter3(m, other impl.Machine, row int64, late []int64, n, k int64) [][]any {
	var all [][]any
	add := func(results ...any) {
		for i := range results {
			results[i] = even(results[i])
		}
		all = append(all, results)
	}
	two := func(result any, code int64) { add(result, code) }
	three := func(first int64, second any, code int64) { add(first, second, code) }
	two(impl.PushesFor(m, row, late))
	two(impl.OutputsIn(m, row, late))
	two(impl.TicksIn(m, row, late))
	two(impl.MachineTables(m))
	slowest, tick, code := impl.SlowestRow(m)
	three(slowest, tick, code)
	two(impl.MachineNeeds(m))
	two(impl.RowWith(m, n))
	two(impl.DifferAt(m, other))
	two(impl.MachineAgainst(m, oneInput()))
	two(impl.HazardsIn(m, row, n))
	two(impl.IsSteady(m, n))
	first, lateFirst, code := impl.FirstUnsteady(m, n)
	three(first, lateFirst, code)
	two(impl.LoadedParts(m))
	two(impl.UselessParts(m))
	pruned, taken, code := impl.PruneMachine(m)
	three(taken, pruned, code)
	two(impl.MoveMachine(m, n, k))
	two(impl.ReadMachine(impl.MachineText(m)))
	return all
}

// withoutCodes calls the functions of the chapter that have none.
func withoutCodes(m, other impl.Machine) []any {
	return []any{impl.ValidMachine(m), impl.SameMachine(m, other), impl.SameMachine(m, m), impl.MachineText(m)}
}

// variedMachines are valid ones and invalid ones.
func variedMachines() []impl.Machine {
	machines := someMachines(20, 4)
	for _, m := range badMachines() {
		machines = append(machines, m)
	}
	return append(machines, manyInputs(5))
}

// P1: no function modifies an argument, nor the unused capacity of one, and equal arguments give equal results.
func TestChapter3Purity(t *testing.T) {
	machines := variedMachines()
	for k, m := range machines {
		other := machines[(k+1)%len(machines)]
		used := m
		board, pieces := roomy(m.Board)
		inputs, ports := withRoom(m.Inputs, portOf(77, 77, 77))
		outputs, cells := withRoom(m.Outputs, cell(77, 77))
		used.Board, used.Inputs, used.Outputs = board, inputs, outputs
		for row := int64(-1); row <= 3; row++ {
			late, ticks := withRoom(lateChoice(m, row+1, row), 77)
			keptPieces, keptPorts, keptCells, keptTicks := slices.Clone(pieces), slices.Clone(ports), slices.Clone(cells), slices.Clone(ticks)
			one := chapter3(used, other, row, late, row, -row)
			two := withoutCodes(used, other)
			back := chapter3(other, used, row, late, row, -row)
			same(t, "pieces", pieces, keptPieces)
			same(t, "ports", ports, keptPorts)
			same(t, "cells", cells, keptCells)
			same(t, "late", ticks, keptTicks)
			same(t, "equal arguments", chapter3(m, other, row, late, row, -row), one)
			same(t, "equal arguments", chapter3(other, m, row, late, row, -row), back)
			same(t, "equal arguments", withoutCodes(m, other), two)
		}
	}
}

// P1: results share no memory with arguments, nor with each other.
func TestChapter3Sharing(t *testing.T) {
	for _, m := range append(someMachines(10, 3), manyParts(60, 4, 8)) {
		kept := evenMachine(m)
		before := chapter3(m, m, 1, noLate(m), 0, 0)
		for _, results := range [][]any{rawResults(m), rawResults(m)} {
			for _, result := range results {
				overwrite(result)
				same(t, "the argument", evenMachine(m), kept)
			}
		}
		same(t, "nothing is kept", chapter3(m, m, 1, noLate(m), 0, 0), before)
	}
}

// rawResults are all lists and machines that the functions return of one, as they are.
func rawResults(m impl.Machine) []any {
	var all []any
	add := func(result any, _ int64) { all = append(all, result) }
	add(impl.PushesFor(m, 1, noLate(m)))
	add(impl.TicksIn(m, 1, noLate(m)))
	add(impl.MachineTables(m))
	add(impl.MachineNeeds(m))
	add(impl.HazardsIn(m, 1, 2))
	add(impl.LoadedParts(m))
	add(impl.UselessParts(m))
	add(impl.MoveMachine(m, 0, 0))
	add(impl.ReadMachine(impl.MachineText(m)))
	_, late, _ := impl.FirstUnsteady(m, 2)
	pruned, _, _ := impl.PruneMachine(m)
	// A second pruning has nothing to take away.
	again, _, _ := impl.PruneMachine(pruned)
	return append(all, late, pruned, again)
}

// overwrite fills a list, or those of a machine or a network, with other values.
func overwrite(result any) {
	switch list := result.(type) {
	case []impl.Push:
		clear(list[:cap(list)])
	case []int64:
		clear(list[:cap(list)])
	case []uint64:
		clear(list[:cap(list)])
	case []bool:
		clear(list[:cap(list)])
	case impl.Machine:
		clear(list.Board.Pieces[:cap(list.Board.Pieces)])
		clear(list.Inputs[:cap(list.Inputs)])
		clear(list.Outputs[:cap(list.Outputs)])
	case impl.Network:
		overwriteNet(list)
	}
}

// A machine of which nothing is taken away is a copy all the same.
func TestPrunedIsNew(t *testing.T) {
	m := withGate()
	pruned, _, _ := impl.PruneMachine(m)
	overwrite(pruned)
	same(t, "the argument", impl.SameMachine(m, withGate()), true)
	moved, _ := impl.MoveMachine(m, 0, 0)
	overwrite(moved)
	same(t, "the argument", impl.SameMachine(m, withGate()), true)
}

// P1: nil lists do the same as empty ones.
func TestChapter3NilAndEmpty(t *testing.T) {
	for _, none := range []impl.Machine{{}, {Board: boardOf(2, 2)}, {Board: rowOf(0), Outputs: []impl.Cell{{}}}, {Board: rowOf(0), Inputs: []impl.Port{{}}}, threeLines()} {
		empty := evenMachine(none)
		for n := int64(-1); n <= 3; n++ {
			same(t, "nil and empty", chapter3(none, empty, n, nil, n, n), chapter3(empty, none, n, []int64{}, n, n))
			same(t, "nil and empty", withoutCodes(none, empty), withoutCodes(empty, none))
		}
	}
}

// P1: every function returns for all arguments, however large or wrong they are.
func TestChapter3Totality(t *testing.T) {
	large := impl.Board{Wide: 24, High: 24, Pieces: make([]impl.Piece, 500000)}
	in := []impl.Port{portOf(0, 0, west)}
	machines := []impl.Machine{
		{}, machineOf(large, in, cell(0, 0)), machineOf(rowOf(0), make([]impl.Port, 300000), cell(0, 0)),
		machineOf(rowOf(0), in, make([]impl.Cell, 900000)...), machineOf(rowOf(0), []impl.Port{portOf(-128, 127, -128)}, cell(127, -128)),
		machineOf(boardOf(-128, 127), in, cell(0, 0)), manyParts(60, 6, 8), manyParts(61, 6, 8), manyInputs(6), twoWays(), withGate(),
	}
	lates := [][]int64{nil, {0}, {0, 100}, {least, greatest}, make([]int64, 6), make([]int64, 800000)}
	numbers := []int64{least, least + 1, -101, -1, 0, 1, 2, 63, 64, 100, 101, 1 << 32, greatest}
	for i, m := range machines {
		for j, n := range numbers {
			late := lates[(i+j)%len(lates)]
			other := machines[(i+j)%len(machines)]
			chapter3(m, other, n, late, numbers[(i+2*j)%len(numbers)], numbers[len(numbers)-1-j])
			withoutCodes(m, other)
		}
	}
}

// P1: with a code other than OK all other results are zero values.
func TestChapter3ZeroResults(t *testing.T) {
	codes := 0
	machines := variedMachines()
	for k, m := range machines {
		for _, n := range []int64{-1, 0, 3, 500} {
			for _, results := range chapter3(m, machines[(k+3)%len(machines)], n, noLate(m), n, n) {
				last := len(results) - 1
				if results[last] == int64(impl.OK) {
					continue
				}
				codes++
				for _, result := range results[:last] {
					v := reflect.ValueOf(result)
					zero := v.IsZero() || v.Kind() == reflect.Slice && v.Len() == 0
					same(t, "zero", zero || reflect.DeepEqual(result, evenMachine(impl.Machine{})), true)
				}
			}
		}
	}
	if codes < 500 {
		t.Errorf("only %d codes", codes)
	}
}

// P1: parts are tried by goroutines; however these are scheduled, and whoever else asks at the same time, the answer is the same.
func TestPartsAgain(t *testing.T) {
	m := manyParts(60, 3, 4)
	want, _ := impl.UselessParts(m)
	pruned, taken, _ := impl.PruneMachine(m)
	var group sync.WaitGroup
	for range 20 {
		group.Go(func() {
			useless, c := impl.UselessParts(m)
			listIs(t, "useless", useless, c, want...)
			again, count, c := impl.PruneMachine(m)
			machineIs(t, "pruned", again, c, pruned)
			same(t, "taken", count, taken)
		})
	}
	group.Wait()
}
