package tests

import (
	"slices"
	"testing"

	"loop.example/g01274/impl"
)

// tableNodes makes the nodes of a table, which is told row by row, as the document tells it.
func (l *nodesByHand) tableNodes(rows []bool) int16 {
	if !slices.Contains(rows, true) {
		one := l.put(oneNode())
		return l.put(unlessNode(one, one))
	}
	if !slices.Contains(rows, false) {
		return l.put(oneNode())
	}
	half := len(rows) / 2
	if slices.Equal(rows[:half], rows[half:]) {
		return l.tableNodes(rows[:half])
	}
	p := l.tableNodes(rows[half:])
	q := l.tableNodes(rows[:half])
	number := int16(0)
	for 2<<number < len(rows) {
		number++
	}
	x := l.put(inputNode(number))
	one := l.put(oneNode())
	notP := l.put(unlessNode(one, p))
	with := l.put(unlessNode(x, notP))
	without := l.put(unlessNode(q, x))
	return l.put(orNode(with, without))
}

// tableNet is the network of a table before it is simplified, which may have too many nodes.
func tableNet(inputs int8, table uint64) impl.Network {
	var rows []bool
	for row := range rowsOf(inputs) {
		rows = append(rows, table>>row%2 == 1)
	}
	var nodes nodesByHand
	last := nodes.tableNodes(rows)
	return netOf(inputs, []int16{last}, nodes...)
}

// checkTable holds NetworkOf of a table against what the document tells; it returns how many nodes there are before.
func checkTable(t *testing.T, inputs int8, table uint64) int {
	t.Helper()
	before := tableNet(inputs, table)
	n, c := impl.NetworkOf(int64(inputs), table)
	if len(before.Nodes) > impl.MaxNodes {
		netFails(t, "too many nodes", n, c, impl.ErrLimit)
		return len(before.Nodes)
	}
	netIs(t, "of a table", n, c, simplifiedByHand(before))
	same(t, "it has this table", outputTablesByRow(n), []uint64{table})
	tables, c := impl.OutputTables(n)
	listIs(t, "it has this table", tables, c, table)
	return len(before.Nodes)
}

// P10: a network of a table has this table.
func TestNetworkOf(t *testing.T) {
	for inputs := int8(1); inputs <= 3; inputs++ {
		for table := range uint64(1) << rowsOf(inputs) {
			checkTable(t, inputs, table)
		}
	}
	d := dice(31)
	for range 3000 {
		checkTable(t, 4, uint64(d.upTo(1<<16)))
	}
	for _, n := range someNets(200) {
		for _, table := range tablesByRow(n) {
			checkTable(t, n.Inputs, table)
		}
	}
	for range 500 {
		table := uint64(0)
		for range 4 {
			table = table<<16 | uint64(d.upTo(1<<16))
		}
		checkTable(t, 6, table)
		checkTable(t, 6, table>>32|table>>32<<32)
		checkTable(t, 5, table>>32)
		checkTable(t, 6, table>>48*0x1000100010001)
	}
}

// There may be 80 nodes before it is simplified, and not 81: tables of 6 inputs with few rows, or without few, have as many.
func TestNetworkOfLimit(t *testing.T) {
	counts := map[int]int{}
	for a := range 64 {
		for b := range a {
			rows := uint64(1)<<a | uint64(1)<<b | uint64(1)<<(a*b%64)
			for _, table := range []uint64{rows, ^rows} {
				counts[checkTable(t, 6, table)]++
			}
		}
	}
	for nodes := 79; nodes <= 81; nodes++ {
		same(t, "tables of so many nodes", counts[nodes] > 3, true)
	}
}

func TestNetworkOfExamples(t *testing.T) {
	never := []impl.Node{oneNode(), unlessNode(0, 0)}
	for inputs := int8(1); inputs <= 6; inputs++ {
		all := ^uint64(0) >> (64 - rowsOf(inputs))
		n, c := impl.NetworkOf(int64(inputs), 0)
		netIs(t, "never pushed", n, c, netOf(inputs, []int16{1}, never...))
		n, c = impl.NetworkOf(int64(inputs), all)
		netIs(t, "always pushed", n, c, netOf(inputs, []int16{0}, oneNode()))
		for i := range int16(inputs) {
			input := outputTablesByRow(netOf(inputs, []int16{0}, inputNode(i)))[0]
			n, c := impl.NetworkOf(int64(inputs), input)
			netIs(t, "an input", n, c, netOf(inputs, []int16{0}, inputNode(i)))
			n, c = impl.NetworkOf(int64(inputs), all&^input)
			netIs(t, "not an input", n, c, simplifiedByHand(tableNet(inputs, all&^input)))
			same(t, "not an input", outputTablesByRow(n), []uint64{all &^ input})
		}
		// The first row alone, and the last one alone.
		for _, table := range []uint64{1, all/2 + 1, all - 1, all / 2} {
			checkTable(t, inputs, table)
		}
	}
	// For the input 1, p is "1", and q is the input 0; of what is made of them q unless x, and x or this, are left.
	n, c := impl.NetworkOf(2, 0b1110)
	want := netOf(2, []int16{3}, inputNode(0), inputNode(1), unlessNode(0, 1), orNode(1, 2))
	netIs(t, "a or b", n, c, want)
	n, c = impl.NetworkOf(2, 0b1000)
	want = netOf(2, []int16{4}, oneNode(), inputNode(0), inputNode(1), unlessNode(0, 1), unlessNode(2, 3))
	netIs(t, "a and b", n, c, want)
}

func TestNetworkOfErrors(t *testing.T) {
	for _, inputs := range []int64{-1, 0, 7, 8, 64, 1<<8 + 1, 1<<32 + 1, least, greatest} {
		for _, table := range []uint64{0, 1, 2, 0x123456789abcdef1, 1<<64 - 1} {
			n, c := impl.NetworkOf(inputs, table)
			netFails(t, "no such number of inputs", n, c, impl.ErrRange)
		}
	}
	for inputs := int8(1); inputs <= 5; inputs++ {
		rows := rowsOf(inputs)
		for _, table := range []uint64{1 << rows, 1<<rows + 1, 1 << 63, 1<<64 - 1, 0x123456789abcdef1} {
			n, c := impl.NetworkOf(int64(inputs), table)
			netFails(t, "a bit of no row", n, c, impl.ErrRange)
		}
	}
	n, c := impl.NetworkOf(6, 0x123456789abcdef1)
	netFails(t, "too many nodes", n, c, impl.ErrLimit)
	n, c = impl.NetworkOf(5, 0x9abcdef1)
	netFails(t, "too many nodes", n, c, impl.ErrLimit)
	// There would be no more than 80 nodes, if it were simplified first.
	n, c = impl.NetworkOf(6, 0x6996966996696996)
	netFails(t, "too many nodes before", n, c, impl.ErrLimit)
	var nodes nodesByHand
	last := nodes.put(inputNode(0))
	for i := int16(1); i < 6; i++ {
		last = nodes.xor(last, nodes.put(inputNode(i)))
	}
	same(t, "few nodes have this table", outputTablesByRow(netOf(6, []int16{last}, nodes...)), []uint64{0x6996966996696996})
}

func TestBothNetworks(t *testing.T) {
	made, tooMany, others := 0, 0, 0
	nets := someNets(120)
	for _, a := range nets {
		for _, b := range nets {
			both, c := impl.BothNetworks(a, b)
			switch {
			case a.Inputs != b.Inputs:
				others++
				netFails(t, "other inputs", both, c, impl.ErrState)
				continue
			case len(a.Nodes)+len(b.Nodes) > 80 || len(a.Outputs)+len(b.Outputs) > 8:
				tooMany++
				netFails(t, "too many", both, c, impl.ErrLimit)
				continue
			}
			made++
			want := netOf(a.Inputs, slices.Clone(a.Outputs), slices.Clone(a.Nodes)...)
			for _, node := range b.Nodes {
				if isGateNode(node) {
					node.A += int16(len(a.Nodes))
					node.B += int16(len(a.Nodes))
				}
				want.Nodes = append(want.Nodes, node)
			}
			for _, out := range b.Outputs {
				want.Outputs = append(want.Outputs, out+int16(len(a.Nodes)))
			}
			netIs(t, "both", both, c, want)
			same(t, "the outputs of both", outputTablesByRow(both), slices.Concat(outputTablesByRow(a), outputTablesByRow(b)))
		}
	}
	if made < 200 || tooMany < 200 || others < 200 {
		t.Errorf("only %d are made, %d too large, and %d of other inputs", made, tooMany, others)
	}
}

func TestBothNetworksLimits(t *testing.T) {
	small, out := netOf(2, []int16{0}, inputNode(1)), []int16{0}
	both, c := impl.BothNetworks(chainNet(79), small)
	code(t, "80 nodes", c, impl.OK)
	same(t, "80 nodes", len(both.Nodes), 80)
	same(t, "the last one", both.Outputs, []int16{78, 79})
	both, c = impl.BothNetworks(small, chainNet(79))
	code(t, "80 nodes", c, impl.OK)
	same(t, "moved", both.Nodes[79], nodeOf(chainNet(79).Nodes[78].Kind, 78, 1+chainNet(79).Nodes[78].B))
	for _, pair := range [][2]impl.Network{{chainNet(80), small}, {small, chainNet(80)}, {chainNet(80), chainNet(80)}, {chainNet(40), chainNet(41)}} {
		both, c := impl.BothNetworks(pair[0], pair[1])
		netFails(t, "more nodes", both, c, impl.ErrLimit)
	}
	for count := 1; count <= 8; count++ {
		a, b := netOf(2, slices.Repeat(out, count), oneNode()), netOf(2, slices.Repeat(out, 8-count), inputNode(0))
		if count < 8 {
			both, c := impl.BothNetworks(a, b)
			netIs(t, "8 outputs", both, c, netOf(2, slices.Concat(slices.Repeat(out, count), slices.Repeat([]int16{1}, 8-count)), oneNode(), inputNode(0)))
		}
		b.Outputs = append(slices.Clone(b.Outputs), 0)
		both, c := impl.BothNetworks(a, b)
		netFails(t, "9 outputs", both, c, impl.ErrLimit)
	}
	// ErrState comes before ErrLimit.
	large := chainNet(80)
	large.Inputs = 3
	both, c = impl.BothNetworks(large, chainNet(80))
	netFails(t, "other inputs come before too many nodes", both, c, impl.ErrState)
	both, c = impl.BothNetworks(netOf(1, slices.Repeat(out, 8), oneNode()), netOf(2, slices.Repeat(out, 8), oneNode()))
	netFails(t, "other inputs come before too many outputs", both, c, impl.ErrState)
	both, c = impl.BothNetworks(small, small)
	netIs(t, "itself twice", both, c, netOf(2, []int16{0, 1}, inputNode(1), inputNode(1)))
}

// adderNet is the network of an adder before it is simplified.
func adderNet(bits int16) impl.Network {
	n := impl.Network{Inputs: int8(2 * bits)}
	var l nodesByHand
	a := l.put(inputNode(0))
	b := l.put(inputNode(bits))
	n.Outputs = []int16{l.xor(a, b)}
	c := l.and(a, b)
	for bit := int16(1); bit < bits; bit++ {
		a := l.put(inputNode(bit))
		b := l.put(inputNode(bits + bit))
		d := l.xor(a, b)
		e := l.and(a, b)
		n.Outputs = append(n.Outputs, l.xor(d, c))
		f := l.and(c, d)
		c = l.put(orNode(e, f))
	}
	n.Nodes, n.Outputs = l, append(n.Outputs, c)
	return n
}

// P10: adders add.
func TestAdderOf(t *testing.T) {
	for bits := int64(1); bits <= 3; bits++ {
		n, c := impl.AdderOf(bits)
		netIs(t, "an adder", n, c, simplifiedByHand(adderNet(int16(bits))))
		same(t, "its inputs", int64(n.Inputs), 2*bits)
		same(t, "its outputs", int64(len(n.Outputs)), bits+1)
		for x := range int64(1) << bits {
			for y := range int64(1) << bits {
				sum, c := impl.EvalNetwork(n, x+y<<bits)
				same(t, "the sum", []int64{sum, c}, []int64{x + y, 0})
				same(t, "the sum", outputsByRow(n)[x+y<<bits], x+y)
			}
		}
	}
	n, c := impl.AdderOf(1)
	netIs(t, "of one bit", n, c, netOf(2, []int16{4, 5}, inputNode(0), inputNode(1), unlessNode(0, 1), unlessNode(1, 0), orNode(2, 3), unlessNode(0, 2)))
	for _, bits := range []int64{-1, 0, 4, 5, 1<<8 + 1, 1<<32 + 1, least, greatest} {
		n, c := impl.AdderOf(bits)
		netFails(t, "no such number of bits", n, c, impl.ErrRange)
	}
}
