package tests

import (
	"strings"
	"testing"

	"loop.example/g01274/impl"
)

func TestMachineText(t *testing.T) {
	want := "3 1\n0 0 line 0 1\n1 0 gate 0 1\n2 0 line 0 1\nin 0 0 west\nin 1 0 north\nout 2 0\n"
	same(t, "text", impl.MachineText(withGate()), want)
	m, c := impl.ReadMachine(want)
	machineIs(t, "read", m, c, withGate())
	corners := machineOf(boardOf(24, 24, pieceOf(23, 10, 5, 3, 9)), []impl.Port{portOf(23, 10, east), portOf(23, 10, south)}, cell(23, 10), cell(23, 10))
	want = "24 24\n23 10 cross 3 9\nin 23 10 east\nin 23 10 south\nout 23 10\nout 23 10\n"
	same(t, "text", impl.MachineText(corners), want)
	m, c = impl.ReadMachine(want)
	machineIs(t, "read", m, c, corners)
	for _, m := range someMachines(120, impl.MaxInputs) {
		got, c := impl.ReadMachine(impl.MachineText(m))
		machineIs(t, "written and read", got, c, m)
	}
	for name, m := range badMachines() {
		same(t, name, impl.MachineText(m), "")
	}
}

func TestReadMachineErrors(t *testing.T) {
	const board, in, out = "2 1\n0 0 line 0 1\n1 0 line 0 1\n", "in 0 0 west\n", "out 1 0\n"
	good, c := impl.ReadMachine(board + in + out)
	machineIs(t, "good", good, c, machineOf(rowOf(0, 0), []impl.Port{portOf(0, 0, west)}, cell(1, 0)))
	texts := []string{
		"", "\n", "x", board, board + in, board + out, in + out, "\n" + in + out, board + out + in, board + in + out + in, in + board + out, out + in + board,
		board + in + out + "\n", board + "\n" + in + out, board + in + "\n" + out, "\n" + board + in + out, board + in + "out 1 0", board + in + out + " ",
		board + " " + in + out, board + in + " " + out, board + "in 0 0 west \n" + out, board + "in  0 0 west\n" + out, board + "in\t0 0 west\n" + out,
		board + "in 0 0\n" + out, board + "in 0 west\n" + out, board + "in 0 0 3\n" + out, board + "in 0 0 West\n" + out, board + "in 0 0 \n" + out,
		board + "in 0 0 west 1\n" + out, board + "In 0 0 west\n" + out, board + "input 0 0 west\n" + out, board + "in 00 0 west\n" + out, board + "in +0 0 west\n" + out,
		board + "in -0 0 west\n" + out, board + "in 0 0 west\r\n" + out, board + "in 2 0 west\n" + out, board + "in 0 1 west\n" + out, board + "in -1 0 west\n" + out,
		board + "in 256 0 west\n" + out, board + "in 0 99999999999999999999 west\n" + out, board + "in a 0 west\n" + out, board + in + in + out,
		board + in + "out 1\n", board + in + "out 1 0 0\n", board + in + "out 1 0 east\n", board + in + "out 2 0\n", board + in + "out 1 1\n", board + in + "out 01 0\n",
		board + in + "Out 1 0\n", board + in + "out 1  0\n", board + in + "out\n", board + in + "1 0\n", board + in + "out 257 0\n",
		board + in + out + "1 1 line 0 1\n", "2 1\n0 0 line 0 1\n" + in + out + "1 0 line 0 1\n",
		"2 1\n0 0 line 0 1\n0 0 line 0 1\n" + in + "out 0 0\n", "2 2\n0 0 line 0 1\n1 0 line 0 10\n" + in + out, "25 1\n0 0 line 0 1\n1 0 line 0 1\n" + in + out,
		"02 1\n0 0 line 0 1\n1 0 line 0 1\n" + in + out, "2 1\nin 0 0 west\nout 1 0\n", "2 1\n" + board + in + out,
	}
	more := manyParts(61, 1, 1)
	texts = append(texts,
		board+in+strings.Repeat(out, 9), board+strings.Repeat(in, 7)+out, impl.BoardText(more.Board)+in+"out 0 0\n",
		board+strings.Repeat(in, 80000)+out, strings.Repeat(" ", 1000000), board+strings.Repeat("in ", 300000), board+in+strings.Repeat("\n", 900000))
	for _, text := range texts {
		m, c := impl.ReadMachine(text)
		machineFails(t, "ReadMachine of "+text[:min(len(text), 80)], m, c, impl.ErrSyntax)
	}
	full := manyParts(60, 6, 8)
	got, c := impl.ReadMachine(impl.MachineText(full))
	machineIs(t, "as large as can be", got, c, full)
}
