package tests

import (
	"strings"
	"testing"

	"loop.example/g01274/impl"
)

func TestWayText(t *testing.T) {
	same(t, "text", impl.WayText(wayOf(0, 0, west, 2, 1, east)), "0 0 west 2 1 east")
	same(t, "text", impl.WayText(wayOf(23, 9, north, 10, 23, south)), "23 9 north 10 23 south")
	same(t, "text", impl.WayText(wayOf(5, 6, south, 5, 6, south)), "5 6 south 5 6 south")
	for name, w := range badWays() {
		// These are as told: their numbers are those of a larger board, or of one with other pieces.
		switch name {
		case "from a piece", "to a piece", "there and back", "at the same cell", "from the east", "from the south", "to the east", "to the south":
			got, c := impl.ReadWay(impl.WayText(w))
			same(t, name, []any{got, c}, []any{w, int64(impl.OK)})
			continue
		}
		same(t, name, impl.WayText(w), "")
	}
	for _, n := range []int8{-128, -1, 24, 127} {
		for _, w := range []impl.Way{wayOf(n, 0, 0, 0, 0, 0), wayOf(0, n, 0, 0, 0, 0), wayOf(0, 0, n, 0, 0, 0), wayOf(0, 0, 0, n, 0, 0), wayOf(0, 0, 0, 0, n, 0), wayOf(0, 0, 0, 0, 0, n)} {
			same(t, "not as told", impl.WayText(w), "")
		}
	}
	same(t, "side 4", impl.WayText(wayOf(0, 0, 4, 0, 0, 0)), "")
	same(t, "out 4", impl.WayText(wayOf(0, 0, 0, 0, 0, 4)), "")
}

// Ways are read from their texts.
func TestReadWrittenWays(t *testing.T) {
	for x := range int8(24) {
		for side := range int8(4) {
			w := wayOf(x, 23-x, side, 23-x, x*5%24, (side+x)%4)
			got, c := impl.ReadWay(impl.WayText(w))
			same(t, "written and read", []any{got, c}, []any{w, int64(impl.OK)})
		}
	}
	for _, one := range someTasks(100) {
		got, c := impl.ReadWay(impl.WayText(one.way))
		same(t, "written and read", []any{got, c}, []any{one.way, int64(impl.OK)})
	}
}

func TestReadWayErrors(t *testing.T) {
	good, c := impl.ReadWay("0 10 west 2 1 east")
	same(t, "good", []any{good, c}, []any{wayOf(0, 10, west, 2, 1, east), int64(impl.OK)})
	texts := []string{
		"", " ", "\n", "0", "0 10 west 2 1 east\n", " 0 10 west 2 1 east", "0 10 west 2 1 east ", "\n0 10 west 2 1 east", "0 10 west 2 1 east\r",
		"0  10 west 2 1 east", "0 10  west 2 1 east", "0\t10 west 2 1 east", "0 10 west 2 1  east", "0,10 west 2,1 east", "0, 10 west 2, 1 east",
		"0 10 west 2 1", "0 10 west 2 east", "10 west 2 1 east", "0 10 2 1 east", "0 10 west 2 1 east east", "0 10 west 2 1 1 east", "0 10 west to 2 1 east", "0 10 west 2 1 east 0 10 west 2 1 east",
		"west 0 10 2 1 east", "0 10 2 1 west east", "0 west 10 2 1 east", "0 10 west east 2 1",
		"24 10 west 2 1 east", "0 24 west 2 1 east", "0 10 west 24 1 east", "0 10 west 2 24 east", "-1 10 west 2 1 east", "0 -1 west 2 1 east", "0 10 west -2 1 east", "0 10 west 2 -1 east",
		"256 10 west 2 1 east", "0 266 west 2 1 east", "0 10 west 258 1 east", "0 10 west 2 257 east", "99999999999999999999 10 west 2 1 east",
		"00 10 west 2 1 east", "0 010 west 2 1 east", "0 10 west 02 1 east", "0 10 west 2 01 east", "+0 10 west 2 1 east", "0 +10 west 2 1 east", "-0 10 west 2 1 east", "0 10 west 2 +1 east",
		"0x0 10 west 2 1 east", "0 1e1 west 2 1 east", "0 1_0 west 2 1 east", "0 10. west 2 1 east", "0 \u0661 west 2 1 east", "a b west c d east",
		"0 10 West 2 1 east", "0 10 WEST 2 1 east", "0 10 w 2 1 east", "0 10 3 2 1 east", "0 10 west 2 1 1", "0 10 west 2 1 e", "0 10 west 2 1 East", "0 10  2 1 east", "0 10 west 2 1 ", "0 10 northwest 2 1 east",
		strings.Repeat(" ", 1000000), strings.Repeat("0 ", 400000), strings.Repeat("\n", 1000000), strings.Repeat("1", 1000000), strings.Repeat("0 10 west 2 1 east", 50000),
	}
	for _, text := range texts {
		w, c := impl.ReadWay(text)
		same(t, "ReadWay of "+text[:min(len(text), 60)], []any{w, c}, []any{impl.Way{}, int64(impl.ErrSyntax)})
	}
}
