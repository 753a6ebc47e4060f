package tests

import (
	"slices"
	"testing"

	"loop.example/g01274/impl"
)

// smallWall is the board for which badWays are not valid.
func smallWall() impl.Board { return walled("...", ".#.") }

func TestValidWay(t *testing.T) {
	b := smallWall()
	good := []impl.Way{
		wayOf(0, 0, west, 2, 1, east), wayOf(0, 0, east, 1, 0, west), wayOf(0, 0, west, 2, 1, west), wayOf(2, 1, north, 0, 1, north),
		wayOf(2, 1, south, 2, 1, north), wayOf(0, 1, north, 0, 1, west), wayOf(0, 1, west, 0, 1, north),
	}
	for _, w := range good {
		same(t, "valid", impl.ValidWay(b, w), true)
	}
	for name, w := range badWays() {
		same(t, name, impl.ValidWay(b, w), false)
	}
	same(t, "cells that are not joined", impl.ValidWay(walled(".#."), wayOf(0, 0, west, 2, 0, east)), true)
	same(t, "the last cells", impl.ValidWay(boardOf(24, 24), wayOf(0, 0, north, 23, 23, south)), true)
	for name, b := range badBoards() {
		same(t, name, impl.ValidWay(b, wayOf(1, 1, west, 0, 1, east)), false)
	}
}

func TestValidWayByRule(t *testing.T) {
	counts := map[bool]int{}
	for _, one := range someTasks(300) {
		for _, out := range []int8{-1, 0, 1, 2, 3, 4} {
			w := one.way
			w.Out = out
			want := wayIsValid(one.board, w)
			counts[want]++
			same(t, "ValidWay", impl.ValidWay(one.board, w), want)
		}
	}
	if counts[false] < 100 || counts[true] < 100 {
		t.Errorf("only %v", counts)
	}
}

func TestFreeCells(t *testing.T) {
	free, c := impl.FreeCells(walled("..#", "#.."))
	listIs(t, "row by row", free, c, cell(0, 0), cell(1, 0), cell(1, 1), cell(2, 1))
	free, c = impl.FreeCells(boardOf(1, 1))
	listIs(t, "one cell", free, c, cell(0, 0))
	free, c = impl.FreeCells(walled("#"))
	listIs(t, "one cell with a piece", free, c)
	free, c = impl.FreeCells(fullBoard(20, 10, 200))
	listIs(t, "full", free, c)
	free, c = impl.FreeCells(boardOf(24, 24))
	same(t, "empty", []any{len(free), free[23], free[24], free[575], c}, []any{576, cell(23, 0), cell(0, 1), cell(23, 23), int64(0)})
	for _, one := range someTasks(200) {
		free, c := impl.FreeCells(one.board)
		listIs(t, "by hand", free, c, freeByHand(one.board)...)
	}
}

// distanceList tells the distances of all cells, row by row.
func distanceList(b impl.Board, c impl.Cell) []int64 {
	var list []int64
	distances := distancesByHand(b, c)
	for y := range b.High {
		for x := range b.Wide {
			distance, known := distances[cell(x, y)]
			if !known {
				distance = -1
			}
			list = append(list, distance)
		}
	}
	return list
}

func TestDistancesFrom(t *testing.T) {
	list, c := impl.DistancesFrom(walled("..#.", ".#..", "...#"), cell(1, 0))
	listIs(t, "round a wall", list, c, 1, 0, -1, 8, 2, -1, 6, 7, 3, 4, 5, -1)
	list, c = impl.DistancesFrom(walled("..#.", ".##.", "...#"), cell(1, 0))
	listIs(t, "on one side of a wall", list, c, 1, 0, -1, -1, 2, -1, -1, -1, 3, 4, 5, -1)
	list, c = impl.DistancesFrom(walled("..#.", ".##.", "...#"), cell(3, 1))
	listIs(t, "on the other side", list, c, -1, -1, -1, 1, -1, -1, -1, 0, -1, -1, -1, -1)
	list, c = impl.DistancesFrom(boardOf(1, 1), cell(0, 0))
	listIs(t, "one cell", list, c, 0)
	list, c = impl.DistancesFrom(boardOf(24, 24), cell(23, 23))
	same(t, "the largest", []any{len(list), list[0], list[23], list[24*23], c}, []any{576, int64(46), int64(23), int64(23), int64(0)})
	list, c = impl.DistancesFrom(winding(), cell(0, 0))
	same(t, "winding", []any{list[20], list[21], list[22], list[2], c}, []any{int64(118), int64(119), int64(120), int64(-1), int64(0)})
	reached := map[bool]int{}
	for _, one := range someTasks(150) {
		for _, from := range freeByHand(one.board)[:min(3, len(freeByHand(one.board)))] {
			list, c := impl.DistancesFrom(one.board, from)
			listIs(t, "by hand", list, c, distanceList(one.board, from)...)
			reached[slices.Contains(list, -1)]++
		}
	}
	if reached[false] < 20 || reached[true] < 20 {
		t.Errorf("only %v", reached)
	}
}

func TestDistancesFromErrors(t *testing.T) {
	b := smallWall()
	for _, c := range []impl.Cell{cell(-1, 0), cell(3, 0), cell(0, -1), cell(0, 2), cell(127, -128), cell(24, 24)} {
		list, got := impl.DistancesFrom(b, c)
		listFails(t, "no cell of the board", list, got, impl.ErrRange)
	}
	list, c := impl.DistancesFrom(b, cell(1, 1))
	listFails(t, "a piece", list, c, impl.ErrState)
	list, c = impl.DistancesFrom(fullBoard(20, 10, 200), cell(19, 9))
	listFails(t, "full", list, c, impl.ErrState)
	list, c = impl.DistancesFrom(fullBoard(20, 10, 200), cell(20, 9))
	listFails(t, "full, and outside", list, c, impl.ErrRange)
}

// Every function with a board returns ErrInvalid first if it is not valid, whatever else is wrong.
func TestLinesOnInvalidBoards(t *testing.T) {
	for name, b := range badBoards() {
		for _, w := range []impl.Way{{}, wayOf(1, 1, west, 0, 1, east), wayOf(-1, 0, 9, 0, 99, -9)} {
			free, c := impl.FreeCells(b)
			listFails(t, name+", FreeCells", free, c, impl.ErrInvalid)
			list, c := impl.DistancesFrom(b, w.From)
			listFails(t, name+", DistancesFrom", list, c, impl.ErrInvalid)
			cells, c := impl.ShortestCells(b, w)
			listFails(t, name+", ShortestCells", cells, c, impl.ErrInvalid)
			laid, c := impl.LayLine(b, w)
			boardFails(t, name+", LayLine", laid, c, impl.ErrInvalid)
			laid, c = impl.LayWithDelay(b, w, -1)
			boardFails(t, name+", LayWithDelay", laid, c, impl.ErrInvalid)
			cells, c = impl.LongerCells(b, nil)
			listFails(t, name+", LongerCells", cells, c, impl.ErrInvalid)
			laid, count, c := impl.LayAll(b, slices.Repeat([]impl.Way{w}, 13))
			boardFails(t, name+", LayAll", laid, c, impl.ErrInvalid)
			same(t, name+", LayAll", count, int64(0))
			laid, _, c = impl.LayAll(b, nil)
			boardFails(t, name+", LayAll of none", laid, c, impl.ErrInvalid)
			order, count, c := impl.BestOrder(b, nil)
			listFails(t, name+", BestOrder", order, c, impl.ErrInvalid)
			same(t, name+", BestOrder", count, int64(0))
			tick, c := impl.CarriesPush(b, w)
			numberFails(t, name+", CarriesPush", tick, c, impl.ErrInvalid)
		}
	}
}

// Functions with ways return ErrInvalid, too, if one is not valid for the board.
func TestInvalidWays(t *testing.T) {
	b := smallWall()
	for name, w := range badWays() {
		cells, c := impl.ShortestCells(b, w)
		listFails(t, name+", ShortestCells", cells, c, impl.ErrInvalid)
		laid, c := impl.LayLine(b, w)
		boardFails(t, name+", LayLine", laid, c, impl.ErrInvalid)
		for _, delay := range []int64{-1, 0, 1, 5, 1000, 1001} {
			laid, c = impl.LayWithDelay(b, w, delay)
			boardFails(t, name+", LayWithDelay", laid, c, impl.ErrInvalid)
		}
		laid, count, c := impl.LayAll(b, []impl.Way{w})
		boardFails(t, name+", LayAll", laid, c, impl.ErrInvalid)
		same(t, name+", LayAll", count, int64(0))
		order, count, c := impl.BestOrder(b, []impl.Way{w})
		listFails(t, name+", BestOrder", order, c, impl.ErrInvalid)
		same(t, name+", BestOrder", count, int64(0))
	}
}
