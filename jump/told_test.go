package jump_test

import (
	"math/big"

	"marquee/api"
)

// toldNext is the least row above one.
func toldNext(l []int, at int) (int, bool) {
	least, ok := 0, false
	for _, row := range l {
		if row > at && (!ok || row < least) {
			least, ok = row, true
		}
	}
	return least, ok
}

// toldAhead is the greatest row below one.
func toldAhead(l []int, at int) (int, bool) {
	greatest, ok := 0, false
	for _, row := range l {
		if row < at && (!ok || row > greatest) {
			greatest, ok = row, true
		}
	}
	return greatest, ok
}

// far is how far two rows are from each other, without a limit.
func far(a, b int) *big.Int {
	d := new(big.Int).Sub(big.NewInt(int64(a)), big.NewInt(int64(b)))
	return d.Abs(d)
}

// toldNearest is the row that no other one is nearer than, the least one of such.
func toldNearest(l []int, at int) (int, bool) {
	for _, row := range toldSort(l) {
		nearest := true
		for _, other := range l {
			if far(other, at).Cmp(far(row, at)) < 0 {
				nearest = false
			}
		}
		if nearest {
			return row, true
		}
	}
	return 0, false
}

// toldStep goes step by step, as long as there is one.
func toldStep(l []int, at, n int) int {
	for ; n > 0; n-- {
		row, ok := toldNext(l, at)
		if !ok {
			return at
		}
		at = row
	}
	for ; n < 0; n++ {
		row, ok := toldAhead(l, at)
		if !ok {
			return at
		}
		at = row
	}
	return at
}

// toldSort takes the least row of those that are above the last one, one by one.
func toldSort(l []int) []int {
	var all []int
	for {
		least, ok := 0, false
		for _, row := range l {
			if (len(all) == 0 || row > all[len(all)-1]) && (!ok || row < least) {
				least, ok = row, true
			}
		}
		if !ok {
			return all
		}
		all = append(all, least)
	}
}

// toldOf is the stops of blocks.
func toldOf(l []api.Block, kind int) []int {
	var rows []int
	for _, b := range l {
		switch {
		case b.Id == 0:
		case kind == 0:
			rows = append(rows, b.Start.Row)
		case kind == 1 && (b.Phase == 3 || b.Phase == 4):
			rows = append(rows, b.Output.Row)
		case kind == 2 && b.Has && b.Code != 0:
			rows = append(rows, b.Start.Row)
		}
	}
	return toldSort(rows)
}

// toldBlock is the last block that starts at a place, or ahead of it.
func toldBlock(l []api.Block, at api.Pos) (api.Block, bool) {
	found, ok := api.Block{}, false
	for _, b := range l {
		if b.Start == at || b.Start.Row < at.Row || b.Start.Row == at.Row && b.Start.Col < at.Col {
			found, ok = b, true
		}
	}
	return found, ok
}
