package tests

import (
	"slices"
	"testing"

	"loop.example/g01274/impl"
)

func TestTrimNetwork(t *testing.T) {
	leftOut := 0
	for _, n := range someNets(300) {
		want := trimmedByHand(n)
		leftOut += len(n.Nodes) - len(want.Nodes)
		trim, c := impl.TrimNetwork(n)
		netIs(t, "trimmed", trim, c, want)
		same(t, "it does the same", outputsByRow(trim), outputsByRow(n))
		for i := range trim.Nodes {
			depends := slices.ContainsFunc(trim.Outputs, func(out int16) bool { return out == int16(i) })
			for j := i + 1; j < len(trim.Nodes) && !depends; j++ {
				node := trim.Nodes[j]
				depends = isGateNode(node) && (int(node.A) == i || int(node.B) == i)
			}
			same(t, "something depends on each node", depends, true)
		}
		again, c := impl.TrimNetwork(trim)
		netIs(t, "nothing is left to trim", again, c, trim)
	}
	if leftOut < 500 {
		t.Errorf("only %d nodes are left out", leftOut)
	}
}

func TestTrimExamples(t *testing.T) {
	cases := []struct{ n, want impl.Network }{
		// A of an input is its number, and no node: the node 1 is left out, though an input 1 is an output.
		{netOf(2, []int16{2}, inputNode(0), oneNode(), inputNode(1)), netOf(2, []int16{0}, inputNode(1))},
		{netOf(2, []int16{1}, oneNode(), oneNode()), netOf(2, []int16{0}, oneNode())},
		{networkOf(0), netOf(2, []int16{0}, inputNode(0))},
		{networkOf(1, 1, 0), netOf(2, []int16{1, 1, 0}, inputNode(0), inputNode(1))},
		{networkOf(4), netOf(2, []int16{2}, inputNode(0), inputNode(1), unlessNode(0, 1))},
		{networkOf(3, 2), netOf(2, []int16{3, 2}, inputNode(0), inputNode(1), oneNode(), orNode(0, 1))},
		// Nodes that do the same are left as they are, if outputs depend on both.
		{repeated(), netOf(2, []int16{9, 4}, repeated().Nodes[:10]...)},
		// By B alone, and by both.
		{netOf(3, []int16{4}, oneNode(), inputNode(2), inputNode(1), oneNode(), unlessNode(0, 2)), netOf(3, []int16{2}, oneNode(), inputNode(1), unlessNode(0, 1))},
		{netOf(3, []int16{3}, oneNode(), inputNode(2), inputNode(1), orNode(2, 2)), netOf(3, []int16{1}, inputNode(1), orNode(0, 0))},
		// What only nodes need that are left out is left out, too.
		{netOf(1, []int16{0}, inputNode(0), oneNode(), orNode(0, 1), unlessNode(2, 2)), netOf(1, []int16{0}, inputNode(0))},
		{netOf(4, []int16{79}, slices.Repeat([]impl.Node{inputNode(3)}, 80)...), netOf(4, []int16{0}, inputNode(3))},
		{chainNet(80), chainNet(80)},
	}
	for _, one := range cases {
		trim, c := impl.TrimNetwork(one.n)
		netIs(t, "trimmed", trim, c, one.want)
	}
}

// P9: a simplified network does the same, and no two of its nodes do.
func TestSimplifyNetwork(t *testing.T) {
	fewer := 0
	for _, n := range someNets(500) {
		want := simplifiedByHand(n)
		fewer += len(n.Nodes) - len(want.Nodes)
		simple, c := impl.SimplifyNetwork(n)
		netIs(t, "simplified", simple, c, want)
		same(t, "it is valid", impl.ValidNetwork(simple), true)
		same(t, "it does the same", outputsByRow(simple), outputsByRow(n))
		same(t, "it has no more nodes", len(simple.Nodes) <= len(n.Nodes), true)
		tables := tablesByRow(simple)
		for i, table := range tables {
			same(t, "no two nodes do the same", slices.Index(tables, table), i)
		}
		again, c := impl.SimplifyNetwork(simple)
		netIs(t, "nothing is left to simplify", again, c, simple)
		_, c = impl.Differ(n, simple)
		code(t, "they do not differ", c, impl.ErrNotFound)
	}
	if fewer < 2000 {
		t.Errorf("only %d nodes fewer", fewer)
	}
}

func TestSimplifyExamples(t *testing.T) {
	cases := []struct{ n, want impl.Network }{
		{repeated(), netOf(2, []int16{4, 4}, inputNode(0), inputNode(1), unlessNode(0, 1), unlessNode(1, 0), orNode(2, 3))},
		// Nodes become the first one that does the same, which here is an input.
		{netOf(2, []int16{2}, inputNode(1), inputNode(1), orNode(0, 1)), netOf(2, []int16{0}, inputNode(1))},
		{netOf(2, []int16{3}, inputNode(0), unlessNode(0, 0), orNode(1, 0), inputNode(0)), netOf(2, []int16{0}, inputNode(0))},
		// Other nodes, the same table: "never" is made of the input 0 first, and then of 1, and of NdOne.
		{netOf(2, []int16{1, 3, 5}, inputNode(0), unlessNode(0, 0), inputNode(1), unlessNode(2, 2), oneNode(), unlessNode(4, 4)), netOf(2, []int16{1, 1, 1}, inputNode(0), unlessNode(0, 0))},
		// A and B become the places of what is kept for them, and these change once more by trimming.
		{netOf(1, []int16{4}, oneNode(), unlessNode(0, 0), orNode(1, 0), inputNode(0), unlessNode(2, 3)), netOf(1, []int16{2}, oneNode(), inputNode(0), unlessNode(0, 1))},
		// What is not "not b" is b.
		{netOf(2, []int16{4}, inputNode(1), oneNode(), unlessNode(1, 0), unlessNode(1, 2), unlessNode(1, 3)), netOf(2, []int16{2}, inputNode(1), oneNode(), unlessNode(1, 0))},
		{netOf(1, []int16{0, 2}, oneNode(), inputNode(0), orNode(0, 1)), netOf(1, []int16{0, 0}, oneNode())},
		{netOf(4, []int16{79}, slices.Repeat([]impl.Node{inputNode(3)}, 80)...), netOf(4, []int16{0}, inputNode(3))},
		// "or" the other way round does the same, and so is one; "unless" the other way round does not.
		{netOf(2, []int16{2, 3, 4, 5}, inputNode(0), inputNode(1), orNode(0, 1), orNode(1, 0), unlessNode(0, 1), unlessNode(1, 0)), netOf(2, []int16{2, 2, 3, 4}, inputNode(0), inputNode(1), orNode(0, 1), unlessNode(0, 1), unlessNode(1, 0))},
		// A of an input is its number, whatever is kept at this place.
		{netOf(3, []int16{1, 0}, inputNode(2), inputNode(0)), netOf(3, []int16{1, 0}, inputNode(2), inputNode(0))},
	}
	for _, one := range cases {
		simple, c := impl.SimplifyNetwork(one.n)
		netIs(t, "simplified", simple, c, one.want)
	}
}

func TestMergeOf(t *testing.T) {
	for _, n := range someNets(400) {
		want, list := mergedByHand(n)
		merged, places, c := impl.MergeOf(n)
		netIs(t, "before trimming", merged, c, want)
		listIs(t, "places", places, c, list...)
		proof, c := impl.CheckMerge(n, merged, places)
		same(t, "a proof", []any{proof, c}, []any{true, int64(0)})
		trim, _ := impl.TrimNetwork(merged)
		simple, c := impl.SimplifyNetwork(n)
		netIs(t, "trimmed", simple, c, trim)
	}
	merged, places, c := impl.MergeOf(repeated())
	netIs(t, "before trimming", merged, c, netOf(2, []int16{4, 4}, inputNode(0), inputNode(1), unlessNode(0, 1), unlessNode(1, 0), orNode(2, 3), oneNode(), unlessNode(5, 4)))
	listIs(t, "places", places, c, int64(0), 1, 2, 3, 4, 1, 0, 2, 3, 4, 5, 6)
}

// A proof is accepted if all is as told, and not if one place, output or table is another one.
func TestCheckMerge(t *testing.T) {
	accepted, refused := 0, 0
	for _, n := range someNets(150) {
		merged, places, _ := impl.MergeOf(n)
		for i := range places {
			for _, place := range []int64{-1, 0, 1, int64(i), int64(len(merged.Nodes)) - 1, int64(len(merged.Nodes)), least, greatest} {
				changed := slices.Clone(places)
				changed[i] = place
				proof, c := impl.CheckMerge(n, merged, changed)
				same(t, "another place", []any{proof, c}, []any{place == places[i], int64(0)})
				if proof {
					accepted++
				} else {
					refused++
				}
			}
		}
		for i := range n.Outputs {
			changed := merged
			changed.Outputs = slices.Clone(merged.Outputs)
			changed.Outputs[i] = (changed.Outputs[i] + 1) % int16(len(merged.Nodes))
			proof, c := impl.CheckMerge(n, changed, places)
			same(t, "another output", []any{proof, c}, []any{len(merged.Nodes) == 1, int64(0)})
		}
		proof, c := impl.CheckMerge(n, merged, places[1:])
		same(t, "a place fewer", []any{proof, c}, []any{false, int64(0)})
		proof, c = impl.CheckMerge(n, merged, append(slices.Clone(places), 0))
		same(t, "a place more", []any{proof, c}, []any{false, int64(0)})
	}
	if accepted < 500 || refused < 500 {
		t.Errorf("only %d are accepted, and %d refused", accepted, refused)
	}
}

func TestCheckMergeExamples(t *testing.T) {
	n := netOf(2, []int16{2, 3}, inputNode(0), inputNode(0), orNode(0, 1), inputNode(1))
	both := netOf(2, []int16{0, 1}, inputNode(0), inputNode(1))
	cases := []struct {
		name   string
		n, m   impl.Network
		places []int64
		want   bool
	}{
		{"as merged", n, both, []int64{0, 0, 0, 1}, true},
		{"itself", n, n, []int64{0, 1, 2, 3}, true},
		{"itself, others with the same table", n, n, []int64{1, 0, 2, 3}, true},
		{"itself, the output at another place", n, n, []int64{0, 1, 0, 3}, false},
		// It need not be merged at all: nodes of m that are the place of none may do anything.
		{"with more nodes", n, netOf(2, []int16{1, 3}, oneNode(), inputNode(0), unlessNode(0, 1), inputNode(1)), []int64{1, 1, 1, 3}, true},
		{"another table", n, both, []int64{0, 1, 0, 1}, false},
		{"no place", n, both, []int64{0, 2, 0, 1}, false},
		{"below", n, both, []int64{0, -1, 0, 1}, false},
		{"no places", n, both, nil, false},
		{"outputs changed", n, netOf(2, []int16{1, 0}, both.Nodes...), []int64{0, 0, 0, 1}, false},
		{"fewer outputs", n, netOf(2, []int16{0}, both.Nodes...), []int64{0, 0, 0, 1}, false},
		{"more outputs", n, netOf(2, []int16{0, 1, 1}, both.Nodes...), []int64{0, 0, 0, 1}, false},
		{"more inputs", n, netOf(3, []int16{0, 1}, both.Nodes...), []int64{0, 0, 0, 1}, false},
		// The table 2 is that of a, if this is the only input, and of a - b with two.
		{"more inputs, the same tables", oneInput(), netOf(2, []int16{2}, inputNode(0), inputNode(1), unlessNode(0, 1)), []int64{2}, false},
		{"never of two", netOf(1, []int16{1}, inputNode(0), unlessNode(0, 0)), netOf(1, []int16{2}, oneNode(), inputNode(0), unlessNode(0, 0)), []int64{1, 2}, true},
	}
	for _, one := range cases {
		proof, c := impl.CheckMerge(one.n, one.m, one.places)
		same(t, one.name, []any{proof, c}, []any{one.want, int64(0)})
	}
}
