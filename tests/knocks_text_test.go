package tests

import (
	"slices"
	"strings"
	"testing"

	"loop.example/g01274/impl"
)

func TestKnocksText(t *testing.T) {
	list := []impl.Knock{knockOf(3, 0, south), knockOf(40, 39, north), knockOf(0, 10, east), knockOf(3, 0, west)}
	want := "3 0 south\n40 39 north\n0 10 east\n3 0 west\n"
	same(t, "text", impl.KnocksText(list), want)
	back, c := impl.ReadKnocks(want)
	listIs(t, "read", back, c, list...)
	same(t, "none", impl.KnocksText(nil), "")
	none, c := impl.ReadKnocks("")
	listIs(t, "none", none, c)
	bad := []impl.Knock{
		knockOf(-1, 0, 0), knockOf(41, 0, 0), knockOf(256, 0, 0), knockOf(1<<32, 0, 0), knockOf(least, 0, 0), knockOf(greatest, 0, 0),
		knockOf(0, -1, 0), knockOf(0, 40, 0), knockOf(0, 256, 0), knockOf(0, 1<<32, 0), knockOf(0, least, 0), knockOf(0, greatest, 0),
		knockOf(0, 0, -1), knockOf(0, 0, 4), knockOf(0, 0, 127), knockOf(0, 0, -128),
	}
	for _, k := range bad {
		same(t, "not as told", impl.KnocksText([]impl.Knock{k}), "")
		same(t, "not as told", impl.KnocksText([]impl.Knock{list[0], k}), "")
		same(t, "not as told", impl.KnocksText([]impl.Knock{k, list[0]}), "")
	}
	most := slices.Repeat(list[:1], 60)
	same(t, "the most", impl.KnocksText(most), strings.Repeat("3 0 south\n", 60))
	same(t, "one too many", impl.KnocksText(append(most, list[1])), "")
	same(t, "far too many", impl.KnocksText(make([]impl.Knock, 300000)), "")
}

// Knocks are read from their texts.
func TestReadWrittenKnocks(t *testing.T) {
	for after := range int64(41) {
		for piece := range int64(40) {
			var list []impl.Knock
			for side := range int8(4) {
				list = append(list, knockOf(after, piece, side))
			}
			got, c := impl.ReadKnocks(impl.KnocksText(list))
			listIs(t, "written and read", got, c, list...)
		}
	}
	d := dice(60)
	for count := range 61 {
		list := chanceKnocks(&d, count, 40)
		got, c := impl.ReadKnocks(impl.KnocksText(list))
		listIs(t, "written and read", got, c, list...)
	}
}

func TestReadKnocksErrors(t *testing.T) {
	good := "3 0 south\n"
	texts := []string{
		"\n", " ", "\n\n", "3", "3 0 south", good + "\n", "\n" + good, good + "\n" + good, good + " ", good + "3 0 south",
		" 3 0 south\n", "3 0 south \n", "3  0 south\n", "3 0  south\n", "3\t0 south\n", "3 0 south\r\n", "3 0\n", "3 south\n", "3 0 south 1\n", "3 0 south south\n",
		"3 0 2\n", "3 0 South\n", "3 0 s\n", "3 0 \n", "3 0 southwest\n", "south 3 0\n", "3 south 0\n",
		"41 0 south\n", "3 40 south\n", "-1 0 south\n", "3 -1 south\n", "128 0 south\n", "259 0 south\n", "3 256 south\n", "4294967299 0 south\n", "99999999999999999999 0 south\n",
		"03 0 south\n", "3 00 south\n", "+3 0 south\n", "3 -0 south\n", "3. 0 south\n", "3 0x1 south\n", "1_0 0 south\n", "3 1e1 south\n", "\u0663 0 south\n", "3 0 south\x00\n",
		good + "41 0 south\n", "41 0 south\n" + good,
		strings.Repeat(good, 61), strings.Repeat(good, 100000), strings.Repeat("\n", 1000000), strings.Repeat(" ", 1000000), strings.Repeat("1", 1000000),
	}
	for _, text := range texts {
		got, c := impl.ReadKnocks(text)
		listFails(t, "ReadKnocks of "+text[:min(len(text), 40)], got, c, impl.ErrSyntax)
	}
	got, c := impl.ReadKnocks(strings.Repeat(good, 60))
	listIs(t, "the most", got, c, slices.Repeat([]impl.Knock{knockOf(3, 0, south)}, 60)...)
}
