// Package geom is layer 1: cells of a map, their numbers, and how they lie. See shared/doc/01-geom.md.
package geom

import (
	"iter"

	"gloaming/api"
)

// farthest is how far X and Y of a plain cell, and of a box that is right, may be from 0.
const farthest = 1048576

// steps are what X and Y gain by a step, by directions: North, East, South, West.
var steps = [4]api.Cell{{X: 0, Y: -1}, {X: 1, Y: 0}, {X: 0, Y: 1}, {X: -1, Y: 0}}

// May tells whether there may be a map of such a size.
func May(s api.Size) bool {
	return 1 <= s.W && s.W <= api.MaxSide && 1 <= s.H && s.H <= api.MaxSide
}

// In tells whether a cell is on a map.
func In(s api.Size, c api.Cell) bool {
	return May(s) && 0 <= c.X && c.X < s.W && 0 <= c.Y && c.Y < s.H
}

// Index is a cell's number, row by row.
func Index(s api.Size, c api.Cell) (int, api.Errno) {
	if !In(s, c) {
		return 0, api.ErrRange
	}
	return c.Y*s.W + c.X, api.OK
}

// At is the cell of a number.
func At(s api.Size, i int) (api.Cell, api.Errno) {
	if !May(s) || i < 0 || i >= s.W*s.H {
		return api.Cell{}, api.ErrRange
	}
	return api.Cell{X: i % s.W, Y: i / s.W}, api.OK
}

// Step is the cell beside one, in a direction.
func Step(s api.Size, c api.Cell, dir int) (api.Cell, api.Errno) {
	if dir < 0 || dir >= len(steps) {
		return api.Cell{}, api.ErrArg
	}
	if !In(s, c) {
		return api.Cell{}, api.ErrRange
	}
	to := api.Cell{X: c.X + steps[dir].X, Y: c.Y + steps[dir].Y}
	if !In(s, to) {
		return api.Cell{}, api.ErrRange
	}
	return to, api.OK
}

// Dir is the direction from a cell to one beside it.
func Dir(a, b api.Cell) (int, api.Errno) {
	if !plain(a) || !plain(b) {
		return 0, api.ErrRange
	}
	by := api.Cell{X: b.X - a.X, Y: b.Y - a.Y}
	for dir, step := range steps {
		if step == by {
			return dir, api.OK
		}
	}
	return 0, api.ErrArg
}

// Beside are the cells beside one, by directions.
func Beside(s api.Size, c api.Cell) ([]api.Cell, api.Errno) {
	if !In(s, c) {
		return nil, api.ErrRange
	}
	var found []api.Cell
	for dir := range len(steps) {
		if to, e := Step(s, c, dir); e == api.OK {
			found = append(found, to)
		}
	}
	return found, api.OK
}

// Far is the greater one of how far two cells lie apart, to the side and downwards.
func Far(a, b api.Cell) (int, api.Errno) {
	if !plain(a) || !plain(b) {
		return 0, api.ErrRange
	}
	return max(apart(a.X, b.X), apart(a.Y, b.Y)), api.OK
}

// Walk is both together.
func Walk(a, b api.Cell) (int, api.Errno) {
	if !plain(a) || !plain(b) {
		return 0, api.ErrRange
	}
	return apart(a.X, b.X) + apart(a.Y, b.Y), api.OK
}

// Fits tells whether a box lies on a map.
func Fits(s api.Size, b api.Box) bool {
	if !right(b) || b.W == 0 || b.H == 0 {
		return false
	}
	// The cells between two corners that are on the map are on it, too.
	return In(s, api.Cell{X: b.X, Y: b.Y}) && In(s, api.Cell{X: b.X + b.W - 1, Y: b.Y + b.H - 1})
}

// Has tells whether a cell lies in a box.
func Has(b api.Box, c api.Cell) bool {
	return right(b) && b.X <= c.X && c.X < b.X+b.W && b.Y <= c.Y && c.Y < b.Y+b.H
}

// Cells are the cells of a box, row by row.
func Cells(b api.Box) iter.Seq[api.Cell] {
	return func(yield func(api.Cell) bool) {
		for y := range rows(b) {
			for x := range b.W {
				if !yield(api.Cell{X: b.X + x, Y: y}) {
					return
				}
			}
		}
	}
}

// rows are the Ys of a box's rows, the least first; there are none, if the box is not right.
func rows(b api.Box) iter.Seq[int] {
	return func(yield func(int) bool) {
		if !right(b) {
			return
		}
		for y := range b.H {
			if !yield(b.Y + y) {
				return
			}
		}
	}
}

// plain tells whether a cell is one whose distances are told: its numbers can't wrap round.
func plain(c api.Cell) bool {
	return near(c.X) && near(c.Y)
}

// right tells whether a box may be.
func right(b api.Box) bool {
	return near(b.X) && near(b.Y) && 0 <= b.W && b.W <= api.MaxSide && 0 <= b.H && b.H <= api.MaxSide
}

// near tells whether a number is one of a plain cell.
func near(n int) bool {
	return -farthest <= n && n <= farthest
}

// apart is how far two numbers lie apart.
func apart(a, b int) int {
	return max(a-b, b-a)
}
