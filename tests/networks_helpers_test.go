package tests

import (
	"slices"
	"strings"
	"testing"

	"loop.example/g01274/impl"
)

func nodeOf(kind int8, a, b int16) impl.Node { return impl.Node{Kind: kind, A: a, B: b} }

func inputNode(number int16) impl.Node { return nodeOf(impl.NdInput, number, 0) }
func oneNode() impl.Node               { return nodeOf(impl.NdOne, 0, 0) }
func orNode(a, b int16) impl.Node      { return nodeOf(impl.NdOr, a, b) }
func unlessNode(a, b int16) impl.Node  { return nodeOf(impl.NdUnless, a, b) }

func isGateNode(n impl.Node) bool { return n.Kind == impl.NdOr || n.Kind == impl.NdUnless }

func netOf(inputs int8, outputs []int16, nodes ...impl.Node) impl.Network {
	return impl.Network{Inputs: inputs, Nodes: nodes, Outputs: outputs}
}

// largestNet has as many inputs, nodes and outputs as there may be; outputs are named twice, and the last node is one.
func largestNet() impl.Network {
	n := netOf(6, []int16{79, 0, 5, 79, 78, 40, 0, 77})
	for i := range int16(6) {
		n.Nodes = append(n.Nodes, inputNode(i))
	}
	n.Nodes = append(n.Nodes, oneNode())
	for i := int16(7); i < 80; i++ {
		n.Nodes = append(n.Nodes, nodeOf(impl.NdOr+int8(i%2), i-1-i%3, i*5%i))
	}
	return n
}

// chainNet has so many nodes: a chain of gates of two inputs, each of the one before and an input.
func chainNet(nodes int) impl.Network {
	n := netOf(2, []int16{int16(nodes - 1)}, inputNode(0), inputNode(1))
	for i := 2; i < nodes; i++ {
		n.Nodes = append(n.Nodes, nodeOf(impl.NdOr+int8(i%2), int16(i-1), int16(i/2%2)))
	}
	return n
}

// repeated has each part of an exclusive or twice, and nodes between them that are left out.
func repeated() impl.Network {
	return netOf(2, []int16{9, 4},
		inputNode(0), inputNode(1), unlessNode(0, 1), unlessNode(1, 0), orNode(2, 3),
		inputNode(1), inputNode(0), unlessNode(6, 5), unlessNode(5, 6), orNode(8, 7), oneNode(), unlessNode(10, 4))
}

// chanceNet is a network by chance; many of its nodes do the same as others, and many are left out.
func chanceNet(d *dice) impl.Network {
	n := impl.Network{Inputs: int8(1 + d.upTo(6))}
	most, near := 1+d.upTo([]int{4, 12, 80}[d.upTo(3)]), []int{2, 5, 80}[d.upTo(3)]
	for len(n.Nodes) < most {
		n.Nodes = append(n.Nodes, chanceNode(d, int(n.Inputs), len(n.Nodes), near))
	}
	for range 1 + d.upTo(8) {
		n.Outputs = append(n.Outputs, int16(d.upTo(most)))
	}
	return n
}

// chanceNode is a node behind so many others; a gate is one of those near it, and where these are few, it mostly is a gate.
func chanceNode(d *dice, inputs, before, near int) impl.Node {
	kind := d.upTo(8 + 32/near)
	switch {
	case kind == 0:
		return oneNode()
	case kind < 3 || before == 0:
		return inputNode(int16(d.upTo(inputs)))
	}
	near = min(near, before)
	return nodeOf(int8(impl.NdOr+kind%2), int16(before-1-d.upTo(near)), int16(before-1-d.upTo(near)))
}

// someNets are valid networks.
func someNets(chance int) []impl.Network {
	nets := []impl.Network{
		oneInput(), networkOf(0), networkOf(0, 1, 2, 3, 4), networkOf(4, 4), networkOf(3, 0, 3, 3, 1, 1, 0, 4),
		repeated(), largestNet(), chainNet(80), chainNet(3),
		netOf(1, []int16{0}, oneNode()), netOf(6, []int16{1}, oneNode(), unlessNode(0, 0)), netOf(6, []int16{0, 0}, inputNode(5)),
		netOf(3, []int16{1}, inputNode(2), inputNode(2), inputNode(0), orNode(0, 1), oneNode()),
		netOf(6, slices.Repeat([]int16{2}, 8), inputNode(5), inputNode(0), orNode(0, 1)),
		netOf(4, []int16{79}, slices.Repeat([]impl.Node{inputNode(3)}, 80)...),
	}
	d := dice(21)
	for range chance {
		nets = append(nets, chanceNet(&d))
	}
	return nets
}

// badNets are invalid, each for one reason.
func badNets() map[string]impl.Network {
	a, out := inputNode(0), []int16{0}
	return map[string]impl.Network{
		"zero":              {},
		"no inputs":         netOf(0, out, oneNode()),
		"inputs below":      netOf(-1, out, oneNode()),
		"least inputs":      netOf(-128, out, oneNode()),
		"too many inputs":   netOf(7, out, a),
		"most inputs":       netOf(127, out, a),
		"no nodes":          netOf(1, out),
		"too many nodes":    netOf(2, out, slices.Repeat([]impl.Node{a}, 81)...),
		"far too many":      netOf(2, out, slices.Repeat([]impl.Node{a}, 5000)...),
		"no outputs":        netOf(1, nil, a),
		"too many outputs":  netOf(1, slices.Repeat(out, 9), a),
		"outputs far over":  netOf(1, slices.Repeat(out, 5000), a),
		"output below":      netOf(1, []int16{-1}, a),
		"output behind":     netOf(1, []int16{0, 1}, a),
		"output far behind": netOf(1, []int16{256}, a),
		"least output":      netOf(1, []int16{0, -32768}, a),
		"kind below":        netOf(1, out, a, nodeOf(-1, 0, 0)),
		"kind above":        netOf(1, out, a, nodeOf(4, 0, 0)),
		"least kind":        netOf(1, out, nodeOf(-128, 0, 0)),
		"input below":       netOf(2, out, inputNode(-1)),
		"input above":       netOf(2, out, a, inputNode(2)),
		"six above":         netOf(6, out, a, inputNode(6)),
		"input far above":   netOf(2, out, a, inputNode(256)),
		"input with B":      netOf(2, out, a, a, nodeOf(impl.NdInput, 0, 1)),
		"one with A":        netOf(2, out, a, a, nodeOf(impl.NdOne, 1, 0)),
		"one with B":        netOf(2, out, a, a, nodeOf(impl.NdOne, 0, 1)),
		"or of itself":      netOf(2, out, a, orNode(1, 0)),
		"or with itself":    netOf(2, out, a, orNode(0, 1)),
		"or of a later one": netOf(2, out, a, orNode(2, 0), a),
		"or, A below":       netOf(2, out, a, orNode(-1, 0)),
		"or, B below":       netOf(2, out, a, orNode(0, -32768)),
		"unless of itself":  netOf(2, out, a, unlessNode(1, 0)),
		"unless itself":     netOf(2, out, a, unlessNode(0, 1)),
		"unless a later":    netOf(2, out, a, unlessNode(0, 2), a),
		"unless, A below":   netOf(2, out, a, unlessNode(-1, 0)),
		"unless, B far":     netOf(2, out, a, unlessNode(0, 32767)),
		"a gate at first":   netOf(2, out, unlessNode(0, 0)),
		"not an output":     netOf(2, out, a, a, orNode(0, 3)),
	}
}

func rowsOf(inputs int8) int64 { return int64(1) << inputs }

// pushedIn tells for each node whether it is pushed in a row.
func pushedIn(n impl.Network, row int64) []bool {
	var pushed []bool
	for _, node := range n.Nodes {
		on := true
		switch node.Kind {
		case impl.NdInput:
			on = row>>node.A%2 == 1
		case impl.NdOr:
			on = pushed[node.A] || pushed[node.B]
		case impl.NdUnless:
			on = pushed[node.A] && !pushed[node.B]
		}
		pushed = append(pushed, on)
	}
	return pushed
}

// tablesByRow tells the tables of all nodes, going through all rows.
func tablesByRow(n impl.Network) []uint64 {
	tables := make([]uint64, len(n.Nodes))
	for row := range rowsOf(n.Inputs) {
		for i, on := range pushedIn(n, row) {
			if on {
				tables[i] += uint64(1) << row
			}
		}
	}
	return tables
}

// outputsByRow tells for each row the number with a 1 for each output that is pushed.
func outputsByRow(n impl.Network) []int64 {
	all := make([]int64, rowsOf(n.Inputs))
	for row := range all {
		pushed := pushedIn(n, int64(row))
		for i, out := range n.Outputs {
			if pushed[out] {
				all[row] += int64(1) << i
			}
		}
	}
	return all
}

// outputTablesByRow tells the tables of all outputs.
func outputTablesByRow(n impl.Network) []uint64 {
	var tables []uint64
	all := tablesByRow(n)
	for _, out := range n.Outputs {
		tables = append(tables, all[out])
	}
	return tables
}

// dependsOn tells whether a node is another one, or depends on it.
func dependsOn(n impl.Network, node, other int16) bool {
	if node <= other {
		return node == other
	}
	gate := n.Nodes[node]
	return isGateNode(gate) && (dependsOn(n, gate.A, other) || dependsOn(n, gate.B, other))
}

// linked is a node whose A and B are looked up, if they are nodes.
func linked(node impl.Node, places map[int16]int16) impl.Node {
	if isGateNode(node) {
		node.A, node.B = places[node.A], places[node.B]
	}
	return node
}

// linkedOutputs are the outputs, looked up.
func linkedOutputs(n impl.Network, places map[int16]int16) []int16 {
	var outputs []int16
	for _, out := range n.Outputs {
		outputs = append(outputs, places[out])
	}
	return outputs
}

// trimmedByHand leaves the nodes out on which no output depends, from the last one on, one after the other.
func trimmedByHand(n impl.Network) impl.Network {
	places := map[int16]int16{}
	trimmed := impl.Network{Inputs: n.Inputs}
	kept := map[int16]bool{}
	for i := int16(len(n.Nodes)) - 1; i >= 0; i-- {
		kept[i] = slices.Contains(n.Outputs, i)
		for j, node := range n.Nodes {
			kept[i] = kept[i] || kept[int16(j)] && isGateNode(node) && (node.A == i || node.B == i)
		}
	}
	for i, node := range n.Nodes {
		if kept[int16(i)] {
			places[int16(i)] = int16(len(trimmed.Nodes))
			trimmed.Nodes = append(trimmed.Nodes, linked(node, places))
		}
	}
	trimmed.Outputs = linkedOutputs(n, places)
	return trimmed
}

// mergedByHand tells what there is before trimming, and the places.
func mergedByHand(n impl.Network) (impl.Network, []int64) {
	tables := tablesByRow(n)
	places := map[int16]int16{}
	merged := impl.Network{Inputs: n.Inputs}
	var kept []uint64
	var list []int64
	for i, node := range n.Nodes {
		place := slices.Index(kept, tables[i])
		if place < 0 {
			place = len(kept)
			kept = append(kept, tables[i])
			merged.Nodes = append(merged.Nodes, linked(node, places))
		}
		places[int16(i)] = int16(place)
		list = append(list, int64(place))
	}
	merged.Outputs = linkedOutputs(n, places)
	return merged, list
}

func simplifiedByHand(n impl.Network) impl.Network {
	merged, _ := mergedByHand(n)
	return trimmedByHand(merged)
}

// nodesByHand makes nodes one behind the other.
type nodesByHand []impl.Node

func (l *nodesByHand) put(node impl.Node) int16 {
	*l = append(*l, node)
	return int16(len(*l) - 1)
}

func (l *nodesByHand) xor(x, y int16) int16 {
	xy := l.put(unlessNode(x, y))
	yx := l.put(unlessNode(y, x))
	return l.put(orNode(xy, yx))
}

func (l *nodesByHand) and(x, y int16) int16 {
	xy := l.put(unlessNode(x, y))
	return l.put(unlessNode(x, xy))
}

// netIs fails the test if a network, with its code OK, is not the one that is wanted.
func netIs(t *testing.T, name string, got impl.Network, gotCode int64, want impl.Network) {
	t.Helper()
	code(t, name, gotCode, impl.OK)
	if got.Inputs != want.Inputs || !slices.Equal(got.Nodes, want.Nodes) || !slices.Equal(got.Outputs, want.Outputs) {
		t.Errorf("%s: got %v, want %v", name, got, want)
	}
}

// netFails fails the test if there is no such code, or a network beside it.
func netFails(t *testing.T, name string, got impl.Network, gotCode, want int64) {
	t.Helper()
	code(t, name, gotCode, want)
	if got.Inputs != 0 || len(got.Nodes) != 0 || len(got.Outputs) != 0 {
		t.Errorf("%s: got %v beside the code %s", name, got, impl.CodeName(gotCode))
	}
}

// chainFormula has so many signs, taken in turn from some, from the left to the right; its last part is the innermost one.
func chainFormula(count int, signs string) string {
	var text strings.Builder
	for i := range count {
		text.WriteString("(" + string("ab"[i%2]) + string(signs[i%len(signs)]))
	}
	return text.String() + "a" + strings.Repeat(")", count)
}
