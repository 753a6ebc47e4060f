package tests

import (
	"reflect"
	"slices"
	"testing"

	"loop.example/g01274/impl"
)

// chapter2 calls every function of the chapter, and returns all results in their order, nil lists made empty.
func chapter2(b impl.Board, list []impl.Push, falls []impl.Fall, i, side int64) []any {
	var all []any
	add := func(result any, c int64) {
		if v := reflect.ValueOf(result); v.Kind() == reflect.Slice && v.Len() == 0 {
			result = reflect.MakeSlice(v.Type(), 0, 0).Interface()
		}
		all = append(all, result, c)
	}
	all = append(all, impl.ValidPushes(b, list), impl.SameFalls(falls, falls), impl.PushesText(list))
	add(impl.RunBoard(b, list))
	add(impl.FallenUntil(b, list, i))
	add(impl.StandingAfter(b, list))
	add(impl.FallOrder(b, list))
	add(impl.LastTick(b, list))
	add(impl.CausesOf(b, list, i))
	add(impl.CheckFalls(b, list, falls))
	add(impl.FirstWrong(b, list, falls))
	add(impl.PushOne(b, i, side))
	add(impl.CountFrom(b, i, side))
	add(impl.NeverHit(b))
	add(impl.LaterPushes(list, i))
	add(impl.FallPicture(b, list, i))
	add(impl.ReadPushes(impl.PushesText(list)))
	return all
}

// withRoom returns a list with room behind it that is filled, and the whole of this.
func withRoom[T any](list []T, filler T) ([]T, []T) {
	whole := append(slices.Clone(list), slices.Repeat([]T{filler}, 5)...)
	return whole[:len(list):len(whole)], whole
}

// P1: no function modifies an argument, nor the unused capacity of one, and equal arguments give equal results.
func TestChapter2Purity(t *testing.T) {
	for k, g := range variedGames() {
		falls := variedFalls(g, k)
		b, pieces := roomy(g.board)
		list, pushes := withRoom(g.pushes, pushOf(77, 77, 77, 77))
		some, told := withRoom(falls, fallOf(77, 77, 77))
		keptPieces, keptPushes, keptFalls := slices.Clone(pieces), slices.Clone(pushes), slices.Clone(told)
		for i := int64(-1); i <= 3; i++ {
			side := (i + int64(k)) % 5
			one := chapter2(b, list, some, i, side)
			same(t, "pieces", pieces, keptPieces)
			same(t, "pushes", pushes, keptPushes)
			same(t, "falls", told, keptFalls)
			same(t, "equal arguments", chapter2(g.board, g.pushes, falls, i, side), one)
		}
	}
}

// variedGames are valid ones and invalid ones.
func variedGames() []gameOf {
	games := someGames()[:60]
	for _, list := range badPushes() {
		games = append(games, gameOf{rowOf(0, 0, 0), list})
	}
	for _, b := range badBoards() {
		games = append(games, gameOf{b, []impl.Push{pushOf(0, 0, west, 0)}}, gameOf{board: b})
	}
	return games
}

// variedFalls are those of a game, some with a wrong one, too few, too many, or not in range.
func variedFalls(g gameOf, k int) []impl.Fall {
	falls, _ := impl.RunBoard(g.board, g.pushes)
	switch k % 5 {
	case 1:
		return append(falls, stay)
	case 2:
		return falls[:len(falls)/2]
	case 3:
		return append(falls, fallOf(-2, 0, 0))
	case 4:
		if len(falls) > 0 {
			falls[0].Tick++
		}
	}
	return falls
}

// P1: results share no memory with arguments, nor with other results.
func TestChapter2Sharing(t *testing.T) {
	b, list := rowOf(0, 0, 0), []impl.Push{pushOf(0, 0, west, 0), pushOf(2, 0, north, 3)}
	kept := slices.Clone(list)
	for _, by := range []int64{0, 1} {
		later, _ := impl.LaterPushes(list, by)
		for i := range later {
			later[i] = pushOf(99, 99, 99, 99)
		}
		same(t, "pushes", list, kept)
	}
	before := chapter2(b, list, nil, 1, west)
	for _, result := range chapter2(b, list, nil, 1, west) {
		switch list := result.(type) {
		case []impl.Fall:
			clear(list[:cap(list)])
		case []int64:
			clear(list[:cap(list)])
		case []string:
			clear(list[:cap(list)])
		}
	}
	same(t, "nothing is kept", chapter2(b, list, nil, 1, west), before)
}

// P1: nil lists do the same as empty ones.
func TestChapter2NilAndEmpty(t *testing.T) {
	for _, none := range []impl.Board{boardOf(2, 2), rowOf(0, 5)} {
		empty := none
		empty.Pieces = append([]impl.Piece{}, none.Pieces...)
		for i := int64(-1); i <= 4; i++ {
			same(t, "nil and empty", chapter2(none, nil, nil, i, 3), chapter2(empty, []impl.Push{}, []impl.Fall{}, i, 3))
		}
	}
}

// P1: every function returns for all arguments, however large or wrong they are.
func TestChapter2Totality(t *testing.T) {
	boards := []impl.Board{
		{}, boardOf(-128, 127), {Wide: 24, High: 24, Pieces: make([]impl.Piece, 500000)},
		fullBoard(20, 10, 200), boardOf(2, 2, pieceOf(-128, -128, -128, -128, -128)), rowOf(0, 4, 5),
	}
	lists := [][]impl.Push{nil, make([]impl.Push, 20), make([]impl.Push, 300000), {pushOf(-128, 127, -128, -32768)}, {pushOf(127, -128, 127, 32767)}}
	falls := [][]impl.Fall{nil, make([]impl.Fall, 200), slices.Repeat([]impl.Fall{fallOf(1000000, 3, greatest)}, 100000), {fallOf(least, -128, least)}, {fallOf(greatest, 127, greatest)}}
	numbers := []int64{least, least + 1, -1001, -1, 0, 3, 4, 199, 200, 256, 1000, 1000001, 1 << 32, greatest}
	for k, n := range numbers {
		for j, b := range boards {
			for m, list := range lists {
				chapter2(b, list, falls[(k+j+m)%len(falls)], n, numbers[len(numbers)-1-k])
			}
		}
	}
}

// P1: with a code other than OK, the result beside it is a zero value.
func TestChapter2ZeroResults(t *testing.T) {
	codes := 0
	for k, g := range variedGames() {
		for _, i := range []int64{-1, 0, 5000, 2000000} {
			all := chapter2(g.board, g.pushes, variedFalls(g, k), i, i)
			for at := 3; at < len(all); at += 2 {
				if all[at+1] == int64(impl.OK) {
					continue
				}
				codes++
				v := reflect.ValueOf(all[at])
				same(t, "zero", v.IsZero() || v.Kind() == reflect.Slice && v.Len() == 0, true)
			}
		}
	}
	if codes < 100 {
		t.Errorf("only %d codes", codes)
	}
}
