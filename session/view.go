package session

import (
	"marquee/api"
	"marquee/fold"
	"marquee/jump"
)

// far is how far is scrolled at most.
const far = 1 << 40

// view is what of the items is seen.
type view struct {
	top     int
	follows bool
}

// shows is the place of the item that is seen first, where the greatest top is that one.
func (v *view) shows(greatest int) int {
	if v.follows {
		return greatest
	}
	return min(v.top, greatest)
}

// turn turns the view to a top.
func (v *view) turn(top, greatest int) {
	v.top = max(min(top, greatest), 0)
	v.follows = v.top == greatest
}

// Items is what is shown of the document.
func (s *Session) Items() []api.Item {
	rows := s.count()
	items, _ := fold.Lay(rows, fold.Clean(rows, s.folds()...)...)
	return items
}

// View is the items that are seen, and the top.
func (s *Session) View() ([]api.Item, int) {
	if s == nil {
		return nil, 0
	}
	items := s.Items()
	return fold.Window(items, s.shows(s.greatest(items)), s.page().Rows())
}

// Shown is the rows that are seen.
func (s *Session) Shown() []api.Row {
	if s.Term().Other() {
		return s.Term().Screen().Page().All()
	}
	seen, _ := s.View()
	var l []api.Row
	for _, x := range seen {
		l = append(l, s.row(x))
	}
	return l
}

// Scroll scrolls the view.
func (s *Session) Scroll(n int) {
	if s == nil {
		return
	}
	greatest := s.greatest(s.Items())
	s.turn(s.shows(greatest)-max(min(n, far), -far), greatest)
}

// Jump goes to a block.
func (s *Session) Jump(n, kind int) api.Errno {
	return s.step(jump.Of(s.Blocks(), kind), n)
}

// Visit goes to a point.
func (s *Session) Visit(n int) api.Errno {
	var rows []int
	for _, at := range s.Points() {
		rows = append(rows, at.Row)
	}
	return s.step(rows, n)
}

// step turns the view from what is seen first to the stop that is n of them on.
func (s *Session) step(stops []int, n int) api.Errno {
	items := s.Items()
	if len(items) == 0 {
		return api.ErrNone
	}
	greatest := s.greatest(items)
	at := items[s.shows(greatest)].Row
	row := jump.Step(stops, at, n)
	top, ok := fold.Find(items, row)
	if row == at || !ok {
		return api.ErrNone
	}
	s.turn(top, greatest)
	return api.OK
}

// greatest is the greatest top.
func (s *Session) greatest(items []api.Item) int {
	return max(len(items)-s.page().Rows(), 0)
}

// folds are those of the folded blocks; of some From isn't ahead of To.
func (s *Session) folds() []fold.Fold {
	var l []fold.Fold
	for _, id := range s.Folded() {
		b, _ := s.block(id)
		from := b.Output.Row
		if b.Output.Col != 0 { // what stands ahead of it in that row stays
			from++
		}
		l = append(l, fold.Fold{From: from, To: b.Done.Row, Id: id})
	}
	return l
}

// row is what is seen of an item.
func (s *Session) row(x api.Item) api.Row {
	if x.Id != 0 {
		return api.Row{Cells: make([]api.Cell, s.page().Cols())}
	}
	row, _ := s.page().Row(x.Row)
	return row
}
