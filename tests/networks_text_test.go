package tests

import (
	"strings"
	"testing"

	"loop.example/g01274/impl"
)

func TestNetworkText(t *testing.T) {
	want := "2 4 0 4\nin 0\nin 1\none\nor 0 1\nunless 0 1\n"
	same(t, "text", impl.NetworkText(networkOf(4, 0, 4)), want)
	n, c := impl.ReadNetwork(want)
	netIs(t, "read", n, c, networkOf(4, 0, 4))
	same(t, "text", impl.NetworkText(oneInput()), "1 0\nin 0\n")
	ten := netOf(6, []int16{10}, oneNode(), inputNode(5))
	want = "6 10\none\nin 5\n"
	for i := int16(2); i < 11; i++ {
		ten.Nodes = append(ten.Nodes, unlessNode(i-1, i-2))
		want += "unless " + string(rune('0'+i-1)) + " " + string(rune('0'+i-2)) + "\n"
	}
	same(t, "text", impl.NetworkText(ten), want)
	for _, n := range someNets(300) {
		got, c := impl.ReadNetwork(impl.NetworkText(n))
		netIs(t, "written and read", got, c, n)
	}
	for name, n := range badNets() {
		same(t, name, impl.NetworkText(n), "")
	}
}

func TestReadNetworkErrors(t *testing.T) {
	const first, nodes = "2 2 0\n", "in 0\nin 1\nor 0 1\n"
	good, c := impl.ReadNetwork(first + nodes)
	netIs(t, "good", good, c, netOf(2, []int16{2, 0}, inputNode(0), inputNode(1), orNode(0, 1)))
	texts := []string{
		"", "\n", " ", "x", "2", "2\n", "2 0", "2 0\n", first, nodes, "\n" + first + nodes, first + "\n" + nodes, first + nodes + "\n", first + nodes + " ", first + nodes[:len(nodes)-1],
		" " + first + nodes, "2 2 0 \n" + nodes, "2  2 0\n" + nodes, "2 2\t0\n" + nodes, "2 2 0\r\n" + nodes, "2,2,0\n" + nodes, "2\n" + nodes, "2 \n" + nodes, nodes + first, first + first + nodes,
		"02 2 0\n" + nodes, "+2 2 0\n" + nodes, "2 02 0\n" + nodes, "2 -0 0\n" + nodes, "0x2 2 0\n" + nodes, "2 2 a\n" + nodes, "two 2 0\n" + nodes, "2 2.0 0\n" + nodes,
		"0 2 0\n" + nodes, "-1 2 0\n" + nodes, "7 2 0\n" + nodes, "1 2 0\n" + nodes, "258 2 0\n" + nodes, "2 3 0\n" + nodes, "2 -1 0\n" + nodes, "2 256 0\n" + nodes, "2 65536 0\n" + nodes, "2 99999999999999999999 0\n" + nodes,
		"2 0 0 0 0 0 0 0 0 0\n" + nodes,
		first + nodes + "in\n", first + nodes + "in 2\n", first + nodes + "in -1\n", first + nodes + "in 0 0\n", first + nodes + "in a\n", first + nodes + "in 00\n", first + nodes + "in  0\n", first + nodes + " in 0\n", first + nodes + "in 0 \n",
		first + nodes + "In 0\n", first + nodes + "input 0\n", first + nodes + "in 256\n", first + nodes + "in +1\n",
		first + nodes + "one 0\n", first + nodes + "one \n", first + nodes + "ones\n", first + nodes + "one 0 0\n", first + nodes + "1\n",
		first + nodes + "or\n", first + nodes + "or 0\n", first + nodes + "or 0 1 2\n", first + nodes + "or 0 3\n", first + nodes + "or 3 0\n", first + nodes + "or -1 0\n", first + nodes + "or 0 01\n", first + nodes + "or 0  1\n", first + nodes + "or 256 0\n",
		first + nodes + "unless\n", first + nodes + "unless 0\n", first + nodes + "unless 0 3\n", first + nodes + "unless 4 0\n", first + nodes + "unless 0 -1\n", first + nodes + "unless 0 1 1\n", first + nodes + "Unless 0 1\n", first + nodes + "unless 0 65536\n",
		first + nodes + "and 0 1\n", first + nodes + "0 1\n", first + nodes + "2 0 1\n", first + nodes + "out 1\n", first + "or 0 1\nin 0\nin 1\n",
		"2 80\n" + strings.Repeat("one\n", 81), "2 0\n" + strings.Repeat("one\n", 81), "2 0\n" + strings.Repeat("one\n", 200000),
		strings.Repeat("1 ", 400000), "1" + strings.Repeat(" 0", 300000) + "\none\n", strings.Repeat("\n", 900000), strings.Repeat(" ", 900000), "1 0\nin" + strings.Repeat(" 0", 400000) + "\n",
	}
	for _, text := range texts {
		n, c := impl.ReadNetwork(text)
		netFails(t, "ReadNetwork of "+text[:min(len(text), 80)], n, c, impl.ErrSyntax)
	}
	full, c := impl.ReadNetwork(impl.NetworkText(largestNet()))
	netIs(t, "as large as can be", full, c, largestNet())
	full, c = impl.ReadNetwork("2 79\n" + strings.Repeat("one\n", 80))
	same(t, "80 nodes", []any{len(full.Nodes), c}, []any{80, int64(impl.OK)})
	full, c = impl.ReadNetwork("6 0 0 0 0 0 0 0 0\nin 5\n")
	same(t, "8 outputs", []any{len(full.Outputs), c}, []any{8, int64(impl.OK)})
}
