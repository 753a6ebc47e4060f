package tests

import (
	"slices"
	"testing"

	"loop.example/g01274/impl"
)

// builtIs fails the test if another number of pieces is set up in all, or if knocks have made others fall.
func builtIs(t *testing.T, name string, b impl.Board, order []int64, knocks []impl.Knock, want int64, wantLost ...int64) {
	t.Helper()
	setUp, happened, c := impl.SetUp(b, order, knocks)
	same(t, name+", SetUp", []int64{setUp, happened, c}, []int64{want, int64(len(wantLost)), impl.OK})
	lost, c := impl.LostBy(b, order, knocks)
	listIs(t, name+", LostBy", lost, c, wantLost...)
}

// rowIs is builtIs for a row of five lines, set up from the west.
func rowIs(t *testing.T, name string, knocks []impl.Knock, want int64, wantLost ...int64) {
	t.Helper()
	builtIs(t, name, lines(5), countingTo(5), knocks, want, wantLost...)
}

func TestKnocks(t *testing.T) {
	rowIs(t, "none", nil, 5)
	rowIs(t, "the first one from the west", []impl.Knock{knockOf(3, 0, west)}, 8, 3)
	rowIs(t, "only what stands falls", []impl.Knock{knockOf(3, 2, west)}, 6, 1)
	rowIs(t, "from the east", []impl.Knock{knockOf(3, 2, east)}, 8, 3)
	rowIs(t, "in the middle", []impl.Knock{knockOf(4, 1, west)}, 8, 3)
	rowIs(t, "from a side from which it does not fall", []impl.Knock{knockOf(3, 0, north)}, 5, 0)
	rowIs(t, "when all stand", []impl.Knock{knockOf(5, 0, west)}, 10, 5)
	rowIs(t, "one after the other", []impl.Knock{knockOf(1, 0, west), knockOf(2, 0, west), knockOf(5, 4, west)}, 9, 1, 2, 1)
	rowIs(t, "back to a lesser number", []impl.Knock{knockOf(4, 3, west), knockOf(3, 2, west), knockOf(2, 0, west)}, 9, 1, 1, 2)
	// 0, 1 and 2; 0; 0 to 4; none; 0 to 4 again.
	rowIs(t, "as in the given test", []impl.Knock{knockOf(3, 1, west), knockOf(1, 4, west), knockOf(5, 4, east)}, 12, 2, 0, 5)
}

func TestKnocksAtNothing(t *testing.T) {
	rowIs(t, "before anything stands", []impl.Knock{knockOf(0, 0, west)}, 5, 0)
	rowIs(t, "several before anything stands", []impl.Knock{knockOf(0, 0, west), knockOf(0, 4, east), knockOf(1, 0, west)}, 6, 0, 0, 1)
	rowIs(t, "when nothing stands any more", []impl.Knock{knockOf(2, 0, west), knockOf(0, 1, west), knockOf(0, 2, west)}, 7, 2, 0, 0)
	rowIs(t, "a piece that does not stand yet", []impl.Knock{knockOf(3, 3, west), knockOf(3, 4, east)}, 5, 0, 0)
	rowIs(t, "a piece that does not stand any more", []impl.Knock{knockOf(3, 2, west), knockOf(2, 2, west), knockOf(3, 2, west)}, 7, 1, 0, 1)
	rowIs(t, "beside a piece that does not stand", []impl.Knock{knockOf(4, 4, east)}, 5, 0)
}

func TestKnocksWithTheSameAfter(t *testing.T) {
	rowIs(t, "both at once, as the first one does nothing", []impl.Knock{knockOf(2, 1, north), knockOf(2, 0, west)}, 7, 0, 2)
	rowIs(t, "the second one later", []impl.Knock{knockOf(3, 2, west), knockOf(3, 2, west), knockOf(3, 0, west)}, 10, 1, 1, 3)
	rowIs(t, "when all stand", []impl.Knock{knockOf(5, 2, north), knockOf(5, 2, west), knockOf(5, 4, east), knockOf(5, 0, south)}, 13, 0, 3, 5, 0)
}

func TestKnocksThatNeverHappen(t *testing.T) {
	rowIs(t, "all stand, and stay", []impl.Knock{knockOf(5, 0, north), knockOf(4, 0, west)}, 5, 0)
	rowIs(t, "too late", []impl.Knock{knockOf(4, 0, north), knockOf(3, 0, west), knockOf(5, 0, west)}, 5, 0)
	rowIs(t, "what comes behind it does not happen, either", []impl.Knock{knockOf(3, 0, north), knockOf(0, 0, west), knockOf(4, 0, west), knockOf(5, 0, west)}, 5, 0)
	rowIs(t, "it happens when they have fallen", []impl.Knock{knockOf(5, 3, west), knockOf(4, 0, west), knockOf(1, 4, west), knockOf(0, 4, west)}, 11, 2, 4, 0)
	rowIs(t, "the first one waits for all", []impl.Knock{knockOf(5, 0, west), knockOf(1, 0, west)}, 11, 5, 1)
}

// What falls hangs on which pieces stand, not on how many: the same knock with as many pieces does not always cost the same.
func TestWhatStands(t *testing.T) {
	b := boardOf(6, 1, pieceOf(0, 0, 0, 0, 1), pieceOf(2, 0, 0, 0, 1), pieceOf(3, 0, 0, 0, 1), pieceOf(4, 0, 0, 0, 1), pieceOf(5, 0, 0, 0, 1))
	again := knockOf(2, 1, west)
	builtIs(t, "1 and 2 stand, and then 0 and 1", b, countingTo(5), []impl.Knock{knockOf(3, 0, west), again, again}, 9, 1, 2, 1)
	builtIs(t, "0 is set up again before 3", b, countingTo(5), []impl.Knock{knockOf(3, 0, east), knockOf(3, 1, west), knockOf(3, 1, west)}, 10, 1, 2, 2)
	builtIs(t, "in another order", b, []int64{4, 2, 0, 3, 1}, []impl.Knock{knockOf(3, 4, west), knockOf(2, 2, east), knockOf(4, 4, east)}, 10, 1, 1, 3)
	// Without the piece 3 the push comes to the pieces behind the gate.
	round := turningFork()
	builtIs(t, "a way round that is not closed yet", round, []int64{0, 1, 2, 4, 5, 6, 7, 8, 9, 10, 11, 12, 3}, []impl.Knock{knockOf(12, 0, west), knockOf(13, 0, west)}, 31, 10, 8)
	builtIs(t, "slow pieces", boardOf(2, 1, pieceOf(0, 0, 0, 0, 9), pieceOf(1, 0, 0, 0, 9)), []int64{1, 0}, []impl.Knock{knockOf(2, 0, west), knockOf(2, 0, west)}, 6, 2, 2)
}

func TestKnocksWithoutPieces(t *testing.T) {
	builtIs(t, "no pieces", boardOf(1, 1), nil, nil, 0)
	setUp, happened, c := impl.SetUp(boardOf(1, 1), nil, []impl.Knock{knockOf(0, 0, west)})
	same(t, "a knock at no piece", []int64{setUp, happened, c}, []int64{0, 0, impl.ErrRange})
	lost, c := impl.LostBy(boardOf(1, 1), nil, []impl.Knock{knockOf(0, 0, west)})
	listFails(t, "a knock at no piece", lost, c, impl.ErrRange)
}

func TestMostKnocks(t *testing.T) {
	row := boardOf(24, 2, straightLine(40)...)
	most := slices.Repeat([]impl.Knock{knockOf(40, 0, west)}, 60)
	builtIs(t, "as many as there may be, of as many pieces", row, countingTo(40), most, 40+60*40, slices.Repeat([]int64{40}, 60)...)
	most = slices.Repeat([]impl.Knock{knockOf(1, 0, west)}, 60)
	builtIs(t, "as many at one piece", rowOf(impl.PcLine), []int64{0}, most, 61, slices.Repeat([]int64{1}, 60)...)
	setUp, happened, c := impl.SetUp(rowOf(impl.PcLine), []int64{0}, append(most, most[0]))
	same(t, "one too many", []int64{setUp, happened, c}, []int64{0, 0, impl.ErrRange})
}

// builtByHand sets up one piece after the other; what falls is told by chapter 2, on a board of the pieces that stand.
func builtByHand(b impl.Board, order []int64, knocks []impl.Knock) (int64, []int64) {
	stands := map[int64]bool{}
	setUp, lost := int64(0), []int64{}
	for {
		if next := len(lost); next < len(knocks) && knocks[next].After == int64(len(stands)) {
			fallen := knockedByHand(b, stands, knocks[next])
			for _, i := range fallen {
				delete(stands, i)
			}
			lost = append(lost, int64(len(fallen)))
			continue
		}
		next := slices.IndexFunc(order, func(i int64) bool { return !stands[i] })
		if next < 0 {
			return setUp, lost
		}
		stands[order[next]] = true
		setUp++
	}
}

// knockedByHand tells the pieces that fall.
func knockedByHand(b impl.Board, stands map[int64]bool, k impl.Knock) []int64 {
	standing := slices.DeleteFunc(countingTo(len(b.Pieces)), func(i int64) bool { return !stands[i] })
	at := slices.Index(standing, k.Piece)
	if at < 0 {
		return nil
	}
	falls, _ := impl.PushOne(partOf(b, standing), int64(at), int64(k.Side))
	var fallen []int64
	for i, f := range falls {
		if f != stay {
			fallen = append(fallen, standing[i])
		}
	}
	return fallen
}

// chanceKnocks are knocks of a board with pieces, most of which happen.
func chanceKnocks(d *dice, count, pieces int) []impl.Knock {
	var list []impl.Knock
	after := 0
	for range count {
		after = min(pieces, after+d.upTo(3))
		if d.upTo(3) == 0 {
			after = d.upTo(pieces + 1)
		}
		list = append(list, knockOf(int64(after), int64(d.upTo(pieces)), int8(d.upTo(4))))
	}
	return list
}

// P17: what is set up in all is what stands, and what has been lost.
func TestSetUpIsWhatStandsAndWhatIsLost(t *testing.T) {
	d := dice(17)
	happened, never := 0, 0
	for _, b := range append(someSites(300, 40)[1:], largeSites()...) {
		for range 3 {
			order := chanceOrder(&d, len(b.Pieces))
			knocks := chanceKnocks(&d, d.upTo(61), len(b.Pieces))
			want, wantLost := builtByHand(b, order, knocks)
			builtIs(t, "by hand", b, order, knocks, want, wantLost...)
			sum := int64(len(b.Pieces))
			lost, _ := impl.LostBy(b, order, knocks)
			for _, fallen := range lost {
				sum += fallen
				if fallen > 0 {
					happened++
				}
			}
			never += len(knocks) - len(lost)
			setUp, _, _ := impl.SetUp(b, order, knocks)
			same(t, "what stands, and what has been lost", setUp, sum)
		}
	}
	if happened < 1000 || never < 1000 {
		t.Errorf("only %d knocks that cost something, and %d that never happen", happened, never)
	}
}

// P17: no knock costs more than the worst accident of what stands, so none costs more than the peak of an order in which nothing has fallen before.
func TestFirstKnocks(t *testing.T) {
	d := dice(18)
	for _, b := range someSites(80, 20)[1:] {
		order := chanceOrder(&d, len(b.Pieces))
		worsts, _ := impl.WorstsOf(b, order)
		for after := 1; after <= len(order); after++ {
			greatest := int64(0)
			for i := range int64(len(order)) {
				for side := range int8(4) {
					lost, c := impl.LostBy(b, order, []impl.Knock{knockOf(int64(after), i, side)})
					code(t, "LostBy", c, impl.OK)
					same(t, "the knock happens", len(lost), 1)
					greatest = max(greatest, lost[0])
				}
			}
			same(t, "the worst knock", greatest, worsts[after-1])
		}
	}
}
