package fold_test

import (
	"math/big"

	"marquee/api"
	"marquee/fold"
)

// toldRight tells whether folds are right, each held against all ahead of it.
func toldRight(rows int, l []fold.Fold) bool {
	for i, f := range l {
		if !(0 <= f.From && f.From < f.To && f.To <= rows) {
			return false
		}
		if i > 0 && f.From < l[i-1].To {
			return false
		}
	}
	return true
}

// toldLay is what is shown, row by row.
func toldLay(rows int, l []fold.Fold) []api.Item {
	var items []api.Item
	for row := range rows {
		by := -1
		for i, f := range l {
			if f.From <= row && row < f.To {
				by = i
			}
		}
		switch {
		case by < 0:
			items = append(items, api.Item{Row: row})
		case l[by].From == row:
			items = append(items, api.Item{Row: row, Id: l[by].Id})
			fallthrough
		default:
			items[len(items)-1].Hidden++
		}
	}
	return items
}

// toldFind is the place of an item, its numbers added without a limit.
func toldFind(items []api.Item, row int) (int, bool) {
	for i, x := range items {
		if x.Id == 0 {
			if x.Row == row {
				return i, true
			}
			continue
		}
		end := new(big.Int).Add(big.NewInt(int64(x.Row)), big.NewInt(int64(x.Hidden)))
		if x.Row <= row && end.Cmp(big.NewInt(int64(row))) > 0 && x.Row <= far && x.Hidden <= far {
			return i, true
		}
	}
	return 0, false
}

// toldWindow tells the items one by one.
func toldWindow(items []api.Item, top, height int) ([]api.Item, int) {
	if height < 0 {
		height = 0
	}
	greatest := len(items) - height
	if greatest < 0 {
		greatest = 0
	}
	if top > greatest {
		top = greatest
	}
	if top < 0 {
		top = 0
	}
	var w []api.Item
	for i, x := range items {
		if i >= top && len(w) < height {
			w = append(w, x)
		}
	}
	return w, top
}

// toldClean is the folds that can stay: each, brought to the rows, is held against the last one that stayed.
func toldClean(rows int, l []fold.Fold) []fold.Fold {
	var stay []fold.Fold
	for _, f := range l {
		if f.From < 0 {
			f.From = 0
		}
		if f.To > rows {
			f.To = rows
		}
		if f.From >= f.To || len(stay) > 0 && f.From < stay[len(stay)-1].To {
			continue
		}
		stay = append(stay, f)
	}
	return stay
}
