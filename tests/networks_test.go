package tests

import (
	"slices"
	"testing"

	"loop.example/g01274/impl"
)

func TestValidNetwork(t *testing.T) {
	for _, n := range someNets(300) {
		same(t, "valid", impl.ValidNetwork(n), true)
	}
	for name, n := range badNets() {
		same(t, name, impl.ValidNetwork(n), false)
	}
	same(t, "as large as can be", impl.ValidNetwork(largestNet()), true)
	more := largestNet()
	more.Nodes = append(more.Nodes, oneNode())
	same(t, "a node more", impl.ValidNetwork(more), false)
	more = largestNet()
	more.Outputs = append(more.Outputs, 0)
	same(t, "an output more", impl.ValidNetwork(more), false)
	more = largestNet()
	more.Inputs++
	same(t, "an input more", impl.ValidNetwork(more), false)
	fewer := largestNet()
	fewer.Inputs--
	same(t, "an input fewer than are used", impl.ValidNetwork(fewer), false)
	same(t, "a node twice", impl.ValidNetwork(netOf(1, []int16{1}, inputNode(0), unlessNode(0, 0))), true)
}

func TestSameNetwork(t *testing.T) {
	one := netOf(2, []int16{2, 0}, inputNode(0), inputNode(1), orNode(0, 1))
	copied := func() impl.Network {
		return netOf(one.Inputs, slices.Clone(one.Outputs), slices.Clone(one.Nodes)...)
	}
	changes := []func(n *impl.Network){
		func(n *impl.Network) { n.Inputs++ },
		func(n *impl.Network) { n.Nodes[2].Kind++ },
		func(n *impl.Network) { n.Nodes[2].A++ },
		func(n *impl.Network) { n.Nodes[0].B++ },
		func(n *impl.Network) { n.Nodes = n.Nodes[:2] },
		func(n *impl.Network) { n.Nodes = nil },
		func(n *impl.Network) { n.Nodes = append(n.Nodes, oneNode()) },
		func(n *impl.Network) { n.Nodes[0], n.Nodes[1] = n.Nodes[1], n.Nodes[0] },
		func(n *impl.Network) { n.Outputs[0]-- },
		func(n *impl.Network) { n.Outputs = n.Outputs[:1] },
		func(n *impl.Network) { n.Outputs = nil },
		func(n *impl.Network) { slices.Reverse(n.Outputs) },
		func(n *impl.Network) { n.Outputs = append(n.Outputs, 0) },
	}
	same(t, "a copy", impl.SameNetwork(one, copied()), true)
	for i, change := range changes {
		other := copied()
		change(&other)
		same(t, "changed "+string(rune('a'+i)), impl.SameNetwork(one, other), false)
		same(t, "changed "+string(rune('a'+i)), impl.SameNetwork(other, one), false)
		same(t, "not valid, maybe", impl.SameNetwork(other, other), true)
	}
	same(t, "nil and empty", impl.SameNetwork(impl.Network{}, impl.Network{Nodes: []impl.Node{}, Outputs: []int16{}}), true)
	same(t, "the same tables, other nodes", impl.SameNetwork(netOf(1, []int16{0}, inputNode(0)), netOf(1, []int16{1}, inputNode(0), orNode(0, 0))), false)
	for _, n := range badNets() {
		same(t, "not valid", impl.SameNetwork(n, n), true)
	}
}

// The examples at the end of chapter 4.
func TestChapter4Examples(t *testing.T) {
	n, c := impl.ReadFormula(2, "(a&b)")
	four := netOf(2, []int16{3}, inputNode(0), inputNode(1), unlessNode(0, 1), unlessNode(0, 2))
	netIs(t, "a and b", n, c, four)
	tables, c := impl.OutputTables(n)
	listIs(t, "its table", tables, c, uint64(8))
	simple, c := impl.SimplifyNetwork(n)
	netIs(t, "simplified", simple, c, four)
	depth, c := impl.DepthOf(n)
	same(t, "its depth", []int64{depth, c}, []int64{6, 0})
	pieces, c := impl.PiecesOf(n)
	same(t, "its pieces", []int64{pieces, c}, []int64{10, 0})
	adder, c := impl.AdderOf(1)
	code(t, "an adder", c, impl.OK)
	tables, c = impl.OutputTables(adder)
	listIs(t, "its tables", tables, c, uint64(6), 8)
	all, c := impl.NetworkOf(1, 3)
	netIs(t, "always pushed", all, c, netOf(1, []int16{0}, oneNode()))
	or, c := impl.ReadFormula(2, "(a|b)")
	code(t, "a or b", c, impl.OK)
	text, c := impl.FormulaOf(or, 0)
	same(t, "written again", []any{text, c}, []any{"(a|b)", int64(0)})
}

func TestEvalNetwork(t *testing.T) {
	for _, n := range someNets(300) {
		for row, want := range outputsByRow(n) {
			pushed, c := impl.EvalNetwork(n, int64(row))
			same(t, "pushed", []int64{pushed, c}, []int64{want, 0})
		}
		for _, row := range []int64{-1, rowsOf(n.Inputs), rowsOf(n.Inputs) + 1, 64, 1 << 32, least, greatest} {
			pushed, c := impl.EvalNetwork(n, row)
			numberFails(t, "no such row", pushed, c, impl.ErrRange)
		}
	}
	n := networkOf(0, 1, 2, 3, 4, 4, 0, 2)
	for row, want := range []int64{0b10000100, 0b11111101, 0b10001110, 0b11001111} {
		pushed, c := impl.EvalNetwork(n, int64(row))
		same(t, "pushed", []int64{pushed, c}, []int64{want, 0})
	}
	last, c := impl.EvalNetwork(netOf(6, []int16{0, 1}, inputNode(5), inputNode(0)), 32)
	same(t, "the input 5 is the greatest digit", []int64{last, c}, []int64{1, 0})
	last, c = impl.EvalNetwork(netOf(6, []int16{0, 1}, inputNode(5), inputNode(0)), 63)
	same(t, "the row 63", []int64{last, c}, []int64{3, 0})
}

func TestTablesOf(t *testing.T) {
	for _, n := range someNets(300) {
		tables, c := impl.TablesOf(n)
		listIs(t, "tables", tables, c, tablesByRow(n)...)
		outputs, c := impl.OutputTables(n)
		listIs(t, "those of outputs", outputs, c, outputTablesByRow(n)...)
	}
	tables, c := impl.TablesOf(networkOf(1, 1))
	listIs(t, "all kinds", tables, c, uint64(0b1010), 0b1100, 0b1111, 0b1110, 0b0010)
	tables, c = impl.OutputTables(networkOf(4, 0, 4))
	listIs(t, "an input, and one twice", tables, c, uint64(0b0010), 0b1010, 0b0010)
	six := netOf(6, []int16{7, 6}, inputNode(0), inputNode(1), inputNode(2), inputNode(3), inputNode(4), inputNode(5), oneNode(), unlessNode(6, 6))
	tables, c = impl.TablesOf(six)
	listIs(t, "six inputs", tables, c, uint64(0xaaaaaaaa_aaaaaaaa), 0xcccccccc_cccccccc, 0xf0f0f0f0_f0f0f0f0, 0xff00ff00_ff00ff00, 0xffff0000_ffff0000, 0xffffffff_00000000, 1<<64-1, 0)
	tables, c = impl.OutputTables(six)
	listIs(t, "all and none", tables, c, uint64(0), 1<<64-1)
	for inputs := int8(1); inputs <= 6; inputs++ {
		tables, c := impl.TablesOf(netOf(inputs, []int16{0}, oneNode(), unlessNode(0, 0)))
		listIs(t, "all and none", tables, c, ^uint64(0)>>(64-rowsOf(inputs)), 0)
	}
}

func TestNeedsOf(t *testing.T) {
	needed, needless := 0, 0
	for _, n := range someNets(400) {
		outputs := outputsByRow(n)
		want := make([]bool, n.Inputs)
		for row := range outputs {
			for i := range want {
				want[i] = want[i] || outputs[row] != outputs[row^1<<i]
			}
		}
		for _, one := range want {
			if one {
				needed++
			} else {
				needless++
			}
		}
		needs, c := impl.NeedsOf(n)
		listIs(t, "needs", needs, c, want...)
	}
	if needed < 200 || needless < 200 {
		t.Errorf("only %d inputs are needed, and %d are not", needed, needless)
	}
	// The output depends on the inputs 0 and 1 by its nodes, but does the same as 1; on the input 2 no output depends.
	n := netOf(3, []int16{5}, inputNode(0), inputNode(1), inputNode(2), orNode(0, 1), unlessNode(0, 1), unlessNode(3, 4))
	needs, c := impl.NeedsOf(n)
	listIs(t, "needs", needs, c, false, true, false)
	needs, c = impl.NeedsOf(netOf(6, []int16{0, 1}, inputNode(5), inputNode(2)))
	listIs(t, "some output changes", needs, c, false, false, true, false, false, true)
	and := netOf(2, []int16{3}, inputNode(0), inputNode(1), unlessNode(0, 1), unlessNode(0, 2))
	needs, c = impl.NeedsOf(and)
	listIs(t, "a and b", needs, c, true, true)
	needs, c = impl.NeedsOf(netOf(6, []int16{0}, oneNode()))
	listIs(t, "always pushed", needs, c, make([]bool, 6)...)
}

func TestCountsOfNodes(t *testing.T) {
	for _, n := range someNets(200) {
		var want [4]int64
		sum := int64(0)
		for _, node := range n.Nodes {
			want[node.Kind]++
			sum += []int64{0, 1, 3, 5}[node.Kind]
		}
		counts, c := impl.CountNodes(n)
		same(t, "counts", []any{counts, c}, []any{want, int64(0)})
		pieces, c := impl.PiecesOf(n)
		same(t, "pieces", []int64{pieces, c}, []int64{sum, 0})
	}
	// Those on which no output depends are counted as well.
	n := networkOf(0)
	counts, c := impl.CountNodes(n)
	same(t, "counts", []any{counts, c}, []any{[4]int64{2, 1, 1, 1}, int64(0)})
	pieces, c := impl.PiecesOf(n)
	same(t, "pieces", []int64{pieces, c}, []int64{9, 0})
}

// depthByHand goes through all ways from a node back to those without others.
func depthByHand(n impl.Network, i int16, known map[int16]int64) int64 {
	if depth, ok := known[i]; ok {
		return depth
	}
	node := n.Nodes[i]
	depth := []int64{0, 1, 2, 3}[node.Kind]
	if isGateNode(node) {
		depth += max(depthByHand(n, node.A, known), depthByHand(n, node.B, known))
	}
	known[i] = depth
	return depth
}

func TestDepthOf(t *testing.T) {
	for _, n := range someNets(300) {
		want := int64(0)
		for _, out := range n.Outputs {
			want = max(want, depthByHand(n, out, map[int16]int64{}))
		}
		depth, c := impl.DepthOf(n)
		same(t, "depth", []int64{depth, c}, []int64{want, 0})
	}
	for out, want := range []int64{0, 0, 1, 2, 3} {
		depth, c := impl.DepthOf(networkOf(0, int16(out)))
		same(t, "depth", []int64{depth, c}, []int64{want, 0})
	}
	// The deepest output is not the last one, and the deepest node is none; of A and B the deeper one counts.
	n := netOf(1, []int16{3, 0}, inputNode(0), oneNode(), orNode(0, 1), unlessNode(2, 0), orNode(3, 3))
	depth, c := impl.DepthOf(n)
	same(t, "depth", []int64{depth, c}, []int64{6, 0})
	depth, c = impl.DepthOf(chainNet(80))
	same(t, "as deep as a chain", []int64{depth, c}, []int64{39*2 + 39*3, 0})
}

func TestDiffer(t *testing.T) {
	nets := someNets(200)
	for i := range nets {
		// Few inputs and outputs, so that many are alike.
		if nets[i].Inputs <= 3 {
			nets[i].Outputs = nets[i].Outputs[:1]
		}
	}
	equal, apart, other := 0, 0, 0
	for i, a := range nets {
		for _, b := range nets[:i+1] {
			row, c := impl.Differ(a, b)
			if a.Inputs != b.Inputs || len(a.Outputs) != len(b.Outputs) {
				other++
				numberFails(t, "other inputs or outputs", row, c, impl.ErrState)
				continue
			}
			want := rowWhereApart(outputsByRow(a), outputsByRow(b))
			if want < 0 {
				equal++
				numberFails(t, "none", row, c, impl.ErrNotFound)
				continue
			}
			apart++
			same(t, "the least row", []int64{row, c}, []int64{want, 0})
			back, c := impl.Differ(b, a)
			same(t, "the other way round", []int64{back, c}, []int64{want, 0})
		}
	}
	if equal < 100 || apart < 100 || other < 100 {
		t.Errorf("only %d are equal, %d are not, and %d cannot be", equal, apart, other)
	}
}

func TestDifferExamples(t *testing.T) {
	cases := []struct {
		a, b impl.Network
		row  int64
		code int64
	}{
		{networkOf(0, 1), networkOf(0, 1), 0, impl.ErrNotFound},
		{networkOf(0, 1), networkOf(0, 0), 1, impl.OK},
		{networkOf(0, 1), networkOf(1, 0), 1, impl.OK},
		{networkOf(3, 1), networkOf(3, 4), 1, impl.OK},
		{networkOf(0, 3), networkOf(4, 3), 3, impl.OK},
		{networkOf(2), networkOf(3), 0, impl.OK},
		// The first output differs in the row 2, and the second one in the row 1.
		{networkOf(3, 1), networkOf(0, 3), 1, impl.OK},
		{networkOf(0), networkOf(0, 0), 0, impl.ErrState},
		{netOf(1, []int16{0}, inputNode(0)), netOf(2, []int16{0}, inputNode(0)), 0, impl.ErrState},
		{netOf(6, []int16{0}, inputNode(5)), netOf(6, []int16{1}, oneNode(), unlessNode(0, 0)), 32, impl.OK},
	}
	for _, one := range cases {
		row, c := impl.Differ(one.a, one.b)
		same(t, "Differ", []int64{row, c}, []int64{one.row, one.code})
	}
	// The row 63 alone: all six inputs, and none.
	text := "(a&(b&(c&(d&(e&f)))))"
	and, _ := impl.ReadFormula(6, text)
	never, _ := impl.ReadFormula(6, "0")
	row, c := impl.Differ(and, never)
	same(t, "the row 63", []int64{row, c}, []int64{63, 0})
}

// ErrInvalid comes before all other errors, with all functions.
func TestInvalidNetworks(t *testing.T) {
	good := networkOf(3)
	for name, n := range badNets() {
		for _, k := range []int64{0, -1, 64, greatest} {
			pushed, c := impl.EvalNetwork(n, k)
			numberFails(t, name+", EvalNetwork", pushed, c, impl.ErrInvalid)
			text, c := impl.FormulaOf(n, k)
			same(t, name+", FormulaOf", []any{text, c}, []any{"", int64(impl.ErrInvalid)})
		}
		tables, c := impl.TablesOf(n)
		listFails(t, name+", TablesOf", tables, c, impl.ErrInvalid)
		tables, c = impl.OutputTables(n)
		listFails(t, name+", OutputTables", tables, c, impl.ErrInvalid)
		needs, c := impl.NeedsOf(n)
		listFails(t, name+", NeedsOf", needs, c, impl.ErrInvalid)
		counts, c := impl.CountNodes(n)
		same(t, name+", CountNodes", []any{counts, c}, []any{[4]int64{}, int64(impl.ErrInvalid)})
		pieces, c := impl.PiecesOf(n)
		numberFails(t, name+", PiecesOf", pieces, c, impl.ErrInvalid)
		depth, c := impl.DepthOf(n)
		numberFails(t, name+", DepthOf", depth, c, impl.ErrInvalid)
		trim, c := impl.TrimNetwork(n)
		netFails(t, name+", TrimNetwork", trim, c, impl.ErrInvalid)
		simple, c := impl.SimplifyNetwork(n)
		netFails(t, name+", SimplifyNetwork", simple, c, impl.ErrInvalid)
		merged, places, c := impl.MergeOf(n)
		netFails(t, name+", MergeOf", merged, c, impl.ErrInvalid)
		same(t, name+", MergeOf", len(places), 0)
		same(t, name+", NetworkText", impl.NetworkText(n), "")
		// The other one may be of other inputs, of too many nodes, or not valid either.
		for _, pair := range [][2]impl.Network{{n, good}, {good, n}, {n, n}, {n, largestNet()}, {largestNet(), n}} {
			row, c := impl.Differ(pair[0], pair[1])
			numberFails(t, name+", Differ", row, c, impl.ErrInvalid)
			both, c := impl.BothNetworks(pair[0], pair[1])
			netFails(t, name+", BothNetworks", both, c, impl.ErrInvalid)
			for _, places := range [][]int64{nil, {0}, {0, 1, 2, 3, 4}, {-1}} {
				proof, c := impl.CheckMerge(pair[0], pair[1], places)
				same(t, name+", CheckMerge", []any{proof, c}, []any{false, int64(impl.ErrInvalid)})
			}
		}
	}
}
