package tests

import (
	"testing"

	"loop.example/g01274/impl"
)

// oneInput is a network that does what its input does.
func oneInput() impl.Network {
	return impl.Network{Inputs: 1, Nodes: []impl.Node{{Kind: impl.NdInput}}, Outputs: []int16{0}}
}

// networkOf has two inputs, and the outputs input 0, input 1, always, one or the other, and 0 unless 1.
func networkOf(outputs ...int16) impl.Network {
	nodes := []impl.Node{{Kind: impl.NdInput}, {Kind: impl.NdInput, A: 1}, {Kind: impl.NdOne}, {Kind: impl.NdOr, A: 0, B: 1}, {Kind: impl.NdUnless, A: 0, B: 1}}
	return impl.Network{Inputs: 2, Nodes: nodes, Outputs: outputs}
}

// A machine is held against the OutputTables of a network; this waits for chapter 4.
func TestMachineAgainst(t *testing.T) {
	if !impl.ValidNetwork(oneInput()) {
		t.Skip("chapter 4 is not built")
	}
	cases := []struct {
		machine impl.Machine
		network impl.Network
		row     int64
		code    int64
	}{
		{threeLines(), oneInput(), 0, impl.ErrNotFound},
		{withGate(), networkOf(4), 0, impl.ErrNotFound},
		{withGate(), networkOf(0), 3, impl.OK},
		{withGate(), networkOf(1), 1, impl.OK},
		{withGate(), networkOf(2), 0, impl.OK},
		{withGate(), networkOf(3), 2, impl.OK},
		{machineOf(withGate().Board, withGate().Inputs, cell(0, 0), cell(1, 0), cell(2, 0)), networkOf(0, 3, 4), 0, impl.ErrNotFound},
		{machineOf(withGate().Board, withGate().Inputs, cell(0, 0), cell(1, 0), cell(2, 0)), networkOf(0, 3, 1), 1, impl.OK},
		{machineOf(withGate().Board, withGate().Inputs, cell(0, 0), cell(1, 0), cell(2, 0)), networkOf(0, 1, 0), 1, impl.OK},
		{threeLines(), networkOf(0), 0, impl.ErrState},
		{withGate(), oneInput(), 0, impl.ErrState},
		{withGate(), networkOf(4, 4), 0, impl.ErrState},
		{machineOf(withGate().Board, withGate().Inputs, cell(2, 0), cell(2, 0)), networkOf(4), 0, impl.ErrState},
		{withGate(), networkOf(5), 0, impl.ErrInvalid},
		{threeLines(), networkOf(-1), 0, impl.ErrInvalid},
		{threeLines(), impl.Network{}, 0, impl.ErrInvalid},
		{threeLines(), impl.Network{Inputs: 1, Nodes: oneInput().Nodes}, 0, impl.ErrInvalid},
		{withGate(), impl.Network{Inputs: 7, Nodes: oneInput().Nodes, Outputs: []int16{0}}, 0, impl.ErrInvalid},
	}
	for _, one := range cases {
		row, c := impl.MachineAgainst(one.machine, one.network)
		same(t, "MachineAgainst", []int64{row, c}, []int64{one.row, one.code})
	}
}
