package tests

import (
	"slices"
	"testing"

	"loop.example/g01274/impl"
)

// oneInput is a network that does what its input does.
func oneInput() impl.Network {
	return impl.Network{Inputs: 1, Nodes: []impl.Node{{Kind: impl.NdInput}}, Outputs: []int16{0}}
}

// networkOf has two inputs, and the outputs input 0, input 1, always, one or the other, and 0 unless 1.
func networkOf(outputs ...int16) impl.Network {
	nodes := []impl.Node{{Kind: impl.NdInput}, {Kind: impl.NdInput, A: 1}, {Kind: impl.NdOne}, {Kind: impl.NdOr, A: 0, B: 1}, {Kind: impl.NdUnless, A: 0, B: 1}}
	return impl.Network{Inputs: 2, Nodes: nodes, Outputs: outputs}
}

// A machine is held against the OutputTables of a network.
func TestMachineAgainst(t *testing.T) {
	cases := []struct {
		machine impl.Machine
		network impl.Network
		row     int64
		code    int64
	}{
		{threeLines(), oneInput(), 0, impl.ErrNotFound},
		{withGate(), networkOf(4), 0, impl.ErrNotFound},
		{withGate(), networkOf(0), 3, impl.OK},
		{withGate(), networkOf(1), 1, impl.OK},
		{withGate(), networkOf(2), 0, impl.OK},
		{withGate(), networkOf(3), 2, impl.OK},
		{machineOf(withGate().Board, withGate().Inputs, cell(0, 0), cell(1, 0), cell(2, 0)), networkOf(0, 3, 4), 0, impl.ErrNotFound},
		{machineOf(withGate().Board, withGate().Inputs, cell(0, 0), cell(1, 0), cell(2, 0)), networkOf(0, 3, 1), 1, impl.OK},
		{machineOf(withGate().Board, withGate().Inputs, cell(0, 0), cell(1, 0), cell(2, 0)), networkOf(0, 1, 0), 1, impl.OK},
		{threeLines(), networkOf(0), 0, impl.ErrState},
		{withGate(), oneInput(), 0, impl.ErrState},
		{withGate(), networkOf(4, 4), 0, impl.ErrState},
		{machineOf(withGate().Board, withGate().Inputs, cell(2, 0), cell(2, 0)), networkOf(4), 0, impl.ErrState},
		{withGate(), networkOf(5), 0, impl.ErrInvalid},
		{threeLines(), networkOf(-1), 0, impl.ErrInvalid},
		{threeLines(), impl.Network{}, 0, impl.ErrInvalid},
		{threeLines(), impl.Network{Inputs: 1, Nodes: oneInput().Nodes}, 0, impl.ErrInvalid},
		{withGate(), impl.Network{Inputs: 7, Nodes: oneInput().Nodes, Outputs: []int16{0}}, 0, impl.ErrInvalid},
	}
	for _, one := range cases {
		row, c := impl.MachineAgainst(one.machine, one.network)
		same(t, "MachineAgainst", []int64{row, c}, []int64{one.row, one.code})
	}
}

// netDoing is a network that does the same as a machine, made of a network for the table of each output.
func netDoing(m impl.Machine) (impl.Network, bool) {
	var all impl.Network
	tables, _ := impl.MachineTables(m)
	for i, table := range tables {
		n, c := impl.NetworkOf(int64(len(m.Inputs)), table)
		if i > 0 && c == impl.OK {
			n, c = impl.BothNetworks(all, n)
		}
		if c != impl.OK {
			return impl.Network{}, false
		}
		all, _ = impl.SimplifyNetwork(n)
	}
	return all, true
}

// Networks that do the same as a machine do not differ, and with another table in an output they do, in the least row of all.
func TestMachineAgainstTables(t *testing.T) {
	alike, apart := 0, 0
	for _, m := range someMachines(150, 4) {
		n, ok := netDoing(m)
		if !ok {
			continue
		}
		alike++
		row, c := impl.MachineAgainst(m, n)
		numberFails(t, "it does the same", row, c, impl.ErrNotFound)
		for i := range n.Outputs {
			for other := range n.Nodes {
				changed := n
				changed.Outputs = slices.Clone(n.Outputs)
				changed.Outputs[i] = int16(other)
				want := rowWhereApart(fallenByRow(m), outputsByRow(changed))
				row, c := impl.MachineAgainst(m, changed)
				if want < 0 {
					numberFails(t, "it does the same", row, c, impl.ErrNotFound)
					continue
				}
				apart++
				same(t, "the least row", []int64{row, c}, []int64{want, 0})
			}
		}
	}
	if alike < 50 || apart < 200 {
		t.Errorf("only %d are alike, and %d are not", alike, apart)
	}
}

// Machines and networks of all kinds, valid or not, are held against each other.
func TestMachineAgainstAll(t *testing.T) {
	machines, nets := someMachines(60, impl.MaxInputs), someNets(100)
	for i := range nets {
		// With one output many of them are alike.
		if i%2 == 0 {
			nets[i].Outputs = nets[i].Outputs[:1]
		}
	}
	codes := map[int64]int{}
	for _, m := range machines {
		fallen := fallenByRow(m)
		for _, n := range nets {
			row, c := impl.MachineAgainst(m, n)
			codes[c]++
			if len(m.Inputs) != int(n.Inputs) || len(m.Outputs) != len(n.Outputs) {
				numberFails(t, "other inputs or outputs", row, c, impl.ErrState)
				continue
			}
			want := rowWhereApart(fallen, outputsByRow(n))
			if want < 0 {
				numberFails(t, "none", row, c, impl.ErrNotFound)
				continue
			}
			same(t, "the least row", []int64{row, c}, []int64{want, 0})
		}
		for name, n := range badNets() {
			row, c := impl.MachineAgainst(m, n)
			numberFails(t, name, row, c, impl.ErrInvalid)
		}
	}
	for name, m := range badMachines() {
		for _, n := range append(nets[:20:20], impl.Network{}) {
			row, c := impl.MachineAgainst(m, n)
			numberFails(t, name, row, c, impl.ErrInvalid)
		}
	}
	for _, c := range []int64{impl.OK, impl.ErrState, impl.ErrNotFound} {
		if codes[c] < 10 {
			t.Errorf("only %d times %s", codes[c], impl.CodeName(c))
		}
	}
	// The row 63 alone: the network has what the machine has, but for this row.
	m := manyInputs(6)
	n, c := impl.ReadFormula(6, "(((((a-b)-c)-d)-e)-f)")
	code(t, "a alone", c, impl.OK)
	row, c := impl.MachineAgainst(m, n)
	numberFails(t, "a alone", row, c, impl.ErrNotFound)
	n, c = impl.ReadFormula(6, "((((((a-b)-c)-d)-e)-f)|(a&(b&(c&(d&(e&f))))))")
	code(t, "a alone, or all", c, impl.OK)
	row, c = impl.MachineAgainst(m, n)
	same(t, "the row 63", []int64{row, c}, []int64{63, 0})
}
