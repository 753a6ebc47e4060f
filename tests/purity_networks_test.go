package tests

import (
	"reflect"
	"slices"
	"strings"
	"testing"

	"loop.example/g01274/impl"
)

// evenNet makes nil lists empty.
func evenNet(n impl.Network) impl.Network {
	n.Nodes = append([]impl.Node{}, n.Nodes...)
	n.Outputs = append([]int16{}, n.Outputs...)
	return n
}

// overwriteNet fills the lists of a network with other values.
func overwriteNet(n impl.Network) {
	nodes, outputs := n.Nodes[:cap(n.Nodes)], n.Outputs[:cap(n.Outputs)]
	for i := range nodes {
		nodes[i] = nodeOf(77, 77, 77)
	}
	for i := range outputs {
		outputs[i] = 77
	}
}

// roomyNet returns the network with room behind its lists, and the whole of these.
func roomyNet(n impl.Network) (impl.Network, []impl.Node, []int16) {
	nodes, allNodes := withRoom(n.Nodes, nodeOf(77, 77, 77))
	outputs, allOutputs := withRoom(n.Outputs, 77)
	n.Nodes, n.Outputs = nodes, outputs
	return n, allNodes, allOutputs
}

// rawChapter4 calls every function of the chapter with a code, and returns the results of each call, the code at last.
func rawChapter4(n, other impl.Network, places []int64, k int64, text string) [][]any {
	var all [][]any
	two := func(result any, code int64) { all = append(all, []any{result, code}) }
	two(impl.EvalNetwork(n, k))
	two(impl.TablesOf(n))
	two(impl.OutputTables(n))
	two(impl.NeedsOf(n))
	two(impl.CountNodes(n))
	two(impl.PiecesOf(n))
	two(impl.DepthOf(n))
	two(impl.Differ(n, other))
	two(impl.TrimNetwork(n))
	two(impl.SimplifyNetwork(n))
	two(impl.CheckMerge(n, other, places))
	merged, told, code := impl.MergeOf(n)
	all = append(all, []any{merged, told, code})
	two(impl.CheckMerge(n, merged, told))
	two(impl.NetworkOf(k, uint64(k)))
	two(impl.BothNetworks(n, other))
	two(impl.AdderOf(k))
	two(impl.ReadFormula(k, text))
	two(impl.FormulaOf(n, k))
	two(impl.ReadNetwork(impl.NetworkText(n)))
	two(impl.ReadNetwork(text))
	two(impl.MachineAgainst(withGate(), n))
	return all
}

// chapter4 calls every function of the chapter, nil lists being made empty.
func chapter4(n, other impl.Network, places []int64, k int64, text string) [][]any {
	all := rawChapter4(n, other, places, k, text)
	for _, results := range all {
		for i := range results {
			results[i] = even(results[i])
		}
	}
	return append(all, []any{impl.ValidNetwork(n), impl.SameNetwork(n, other), impl.SameNetwork(n, n), impl.NetworkText(n), int64(impl.OK)})
}

// variedNets are valid ones and invalid ones.
func variedNets() []impl.Network {
	nets := someNets(40)
	for _, n := range badNets() {
		nets = append(nets, n)
	}
	return nets
}

var someTexts = []string{"(a&b)", "!((a-b)|(0-f))", "(a", "", "1", strings.Repeat("!", 60) + "a", "2 1\nin 0\nin 1\n"}

// P1: no function modifies an argument, nor the unused capacity of one, and equal arguments give equal results.
func TestChapter4Purity(t *testing.T) {
	nets := variedNets()
	for i, n := range nets {
		other := nets[(i+1)%len(nets)]
		used, nodes, outputs := roomyNet(n)
		second, otherNodes, otherOutputs := roomyNet(other)
		_, told, _ := impl.MergeOf(n)
		places, allPlaces := withRoom(told, 77)
		kept := []any{slices.Clone(nodes), slices.Clone(outputs), slices.Clone(otherNodes), slices.Clone(otherOutputs), slices.Clone(allPlaces)}
		for k := int64(-1); k <= 6; k++ {
			text := someTexts[int(k+1)%len(someTexts)]
			one := chapter4(used, second, places, k, text)
			same(t, "arguments", []any{nodes, outputs, otherNodes, otherOutputs, allPlaces}, kept)
			same(t, "equal arguments", chapter4(n, other, slices.Clone(told), k, text), one)
			same(t, "again", chapter4(used, second, places, k, text), one)
		}
	}
}

// P1: results share no memory with arguments, nor with what other calls return.
func TestChapter4Sharing(t *testing.T) {
	for _, n := range someNets(60) {
		for k := range int64(4) {
			kept := evenNet(n)
			before := chapter4(n, n, nil, k, "(a|b)")
			for range 2 {
				for _, results := range rawChapter4(n, n, nil, k, "(a|b)") {
					for _, result := range results {
						overwrite(result)
						same(t, "the argument", evenNet(n), kept)
					}
				}
			}
			same(t, "nothing is kept", chapter4(n, n, nil, k, "(a|b)"), before)
		}
	}
}

// Networks that are made of others are new, also if there is nothing to change.
func TestMadeNetsAreNew(t *testing.T) {
	n := networkOf(0, 1, 2, 3, 4)
	kept := evenNet(n)
	trim, _ := impl.TrimNetwork(n)
	simple, _ := impl.SimplifyNetwork(n)
	merged, _, _ := impl.MergeOf(n)
	both, _ := impl.BothNetworks(networkOf(3), networkOf(4))
	for _, made := range []impl.Network{trim, simple, merged, both} {
		overwriteNet(made)
		netIs(t, "the argument", n, impl.OK, kept)
	}
	small, large := networkOf(3), networkOf(0, 1)
	both, _ = impl.BothNetworks(small, large)
	overwriteNet(both)
	netIs(t, "the first one", small, impl.OK, networkOf(3))
	netIs(t, "the second one", large, impl.OK, networkOf(0, 1))
}

// P1: nil lists do the same as empty ones.
func TestChapter4NilAndEmpty(t *testing.T) {
	for _, none := range []impl.Network{{}, {Inputs: 1}, {Inputs: 1, Nodes: oneInput().Nodes}, {Inputs: 1, Outputs: []int16{0}}, oneInput()} {
		empty := evenNet(none)
		for k := int64(-1); k <= 2; k++ {
			same(t, "nil and empty", chapter4(none, empty, nil, k, ""), chapter4(empty, none, []int64{}, k, ""))
		}
	}
}

// P1: every function returns for all arguments, however large or wrong they are.
func TestChapter4Totality(t *testing.T) {
	nets := append(variedNets(),
		netOf(6, []int16{0}, make([]impl.Node, 300000)...), netOf(6, make([]int16, 900000), inputNode(0)),
		netOf(127, []int16{32767, -32768}, nodeOf(127, 32767, -32768), nodeOf(-128, -32768, 32767)), netOf(-128, nil), chainNet(80), largestNet())
	numbers := []int64{least, least + 1, -1, 0, 1, 2, 3, 5, 6, 7, 8, 63, 64, 65, 80, 200, 1 << 16, 1 << 32, greatest}
	lists := [][]int64{nil, {0}, {least, greatest}, make([]int64, 80), make([]int64, 900000), slices.Repeat([]int64{greatest}, 80)}
	texts := append(slices.Clone(someTexts), strings.Repeat("(", 1000000), strings.Repeat("!", 1000000), strings.Repeat("in 0\n", 200000), strings.Repeat("\x00", 200), strings.Repeat("(", 200), strings.Repeat("!", 200))
	for i, n := range nets {
		for j, k := range numbers {
			chapter4(n, nets[(i+j)%len(nets)], lists[(i+j)%len(lists)], k, texts[(i+2*j)%len(texts)])
		}
	}
	for _, k := range numbers {
		for _, table := range []uint64{0, 1, 1 << 63, 1<<64 - 1, 0x123456789abcdef1} {
			impl.NetworkOf(k, table)
		}
		for _, text := range texts {
			impl.ReadFormula(k, text)
		}
	}
}

// P1: with a code other than OK all other results are zero values.
func TestChapter4ZeroResults(t *testing.T) {
	codes := map[int64]int{}
	nets := variedNets()
	for i, n := range nets {
		for j, k := range []int64{-1, 0, 3, 6, 500} {
			for _, results := range chapter4(n, nets[(i+j)%len(nets)], nil, k, someTexts[(i+j)%len(someTexts)]) {
				last := len(results) - 1
				codes[results[last].(int64)]++
				if results[last] == int64(impl.OK) {
					continue
				}
				for _, result := range results[:last] {
					v := reflect.ValueOf(result)
					zero := v.IsZero() || v.Kind() == reflect.Slice && v.Len() == 0
					same(t, "zero", zero || reflect.DeepEqual(result, evenNet(impl.Network{})), true)
				}
			}
		}
	}
	for _, c := range []int64{impl.ErrInvalid, impl.ErrRange, impl.ErrLimit, impl.ErrState, impl.ErrSyntax, impl.ErrNotFound} {
		if codes[c] < 10 {
			t.Errorf("only %d times %s", codes[c], impl.CodeName(c))
		}
	}
}
