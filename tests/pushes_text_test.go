package tests

import (
	"slices"
	"strings"
	"testing"

	"loop.example/g01274/impl"
)

func TestPushesText(t *testing.T) {
	list := []impl.Push{pushOf(3, 0, south, 12), pushOf(23, 23, north, 0), pushOf(0, 10, east, 1000), pushOf(3, 0, west, 12)}
	want := "3 0 south 12\n23 23 north 0\n0 10 east 1000\n3 0 west 12\n"
	same(t, "text", impl.PushesText(list), want)
	back, c := impl.ReadPushes(want)
	listIs(t, "read", back, c, list...)
	same(t, "none", impl.PushesText(nil), "")
	none, c := impl.ReadPushes("")
	listIs(t, "none", none, c)
	bad := []impl.Push{
		pushOf(-1, 0, 0, 0), pushOf(24, 0, 0, 0), pushOf(0, -1, 0, 0), pushOf(0, 24, 0, 0), pushOf(127, -128, 0, 0),
		pushOf(0, 0, -1, 0), pushOf(0, 0, 4, 0), pushOf(0, 0, 127, 0), pushOf(0, 0, -128, 0),
		pushOf(0, 0, 0, -1), pushOf(0, 0, 0, 1001), pushOf(0, 0, 0, 32767), pushOf(0, 0, 0, -32768),
	}
	for _, p := range bad {
		same(t, "not as told", impl.PushesText([]impl.Push{p}), "")
		same(t, "not as told", impl.PushesText([]impl.Push{list[0], p}), "")
	}
	most := slices.Repeat(list[:1], 20)
	same(t, "the most", impl.PushesText(most), strings.Repeat("3 0 south 12\n", 20))
	same(t, "one too many", impl.PushesText(append(most, list[1])), "")
}

// Pushes are read from their texts.
func TestReadWrittenPushes(t *testing.T) {
	for _, g := range someGames() {
		got, c := impl.ReadPushes(impl.PushesText(g.pushes))
		listIs(t, "written and read", got, c, g.pushes...)
	}
	for x := range int8(24) {
		p := pushOf(x, 23-x, x%4, int16(x)*43)
		got, c := impl.ReadPushes(impl.PushesText([]impl.Push{p}))
		listIs(t, "written and read", got, c, p)
	}
}

func TestReadPushesErrors(t *testing.T) {
	good := "3 0 south 12\n"
	texts := []string{
		"\n", " ", "\n\n", "3", "3 0 south 12", good + "\n", "\n" + good, good + "\n" + good, good + " ", good + "3 0 south 12",
		" 3 0 south 12\n", "3 0 south 12 \n", "3  0 south 12\n", "3\t0 south 12\n", "3 0 south 12\r\n", "3 0 south\n", "3 0 12\n", "3 0 south 12 1\n",
		"3 0 2 12\n", "3 0 South 12\n", "3 0 s 12\n", "3 0  12\n", "3 0 southwest 12\n", "south 3 0 12\n", "3 0 12 south\n",
		"24 0 south 12\n", "0 24 south 12\n", "-1 0 south 12\n", "0 -1 south 12\n", "259 0 south 12\n", "0 256 south 12\n",
		"03 0 south 12\n", "3 00 south 12\n", "+3 0 south 12\n", "3 -0 south 12\n", "3 0 south 012\n", "3 0 south +12\n", "3 0 south -0\n",
		"3 0 south -1\n", "3 0 south 1001\n", "3 0 south 65536\n", "3 0 south 65548\n", "3 0 south 99999999999999999999\n", "3 0 south 1e1\n",
		"3 0 south 1_0\n", "3 0 south 12.\n", "3 0 south 0xc\n", "3 0 south \u0661\n", good + "24 0 south 12\n", "24 0 south 12\n" + good,
		strings.Repeat(good, 21), strings.Repeat(good, 70000), strings.Repeat("\n", 1000000), strings.Repeat(" ", 1000000), strings.Repeat("1", 1000000),
	}
	for _, text := range texts {
		got, c := impl.ReadPushes(text)
		listFails(t, "ReadPushes of "+text[:min(len(text), 40)], got, c, impl.ErrSyntax)
	}
	got, c := impl.ReadPushes(strings.Repeat(good, 20))
	listIs(t, "the most", got, c, slices.Repeat([]impl.Push{pushOf(3, 0, south, 12)}, 20)...)
}
