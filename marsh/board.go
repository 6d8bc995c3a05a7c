package marsh

import (
	"slices"

	"sedge/api"
)

const (
	minBoard  = 4  // squares of a board
	maxSquare = 36 // bytes of a square
)

// writing is what a square has, and what it had when it was dry last. No list of it is
// ever changed, so that the squares of a copy may have the same ones.
type writing struct {
	last, dried []byte
}

// Board has squares that are lost in a fire if they are wet.
type Board struct {
	squares []writing
	down    bool
	armed   int // how many calls are left up to the one that fails, 0 if none does
	fires   int // how many there were, by which books know whether they are dead
}

// NewBoard returns a board that is up.
func NewBoard(squares int) (*Board, api.Errno) {
	if squares < minBoard || squares > api.MaxBoard {
		return nil, api.ErrArg
	}
	return &Board{squares: make([]writing, squares)}, api.OK
}

// Squares returns how many squares a board has.
func (b *Board) Squares() int {
	if b == nil {
		return 0
	}
	return len(b.squares)
}

// Write replaces what a square has.
func (b *Board) Write(square int, bytes []byte) api.Errno {
	if b.Down() {
		return api.ErrDown
	}
	if !b.has(square) || len(bytes) > maxSquare {
		return api.ErrArg
	}
	if b.fails() {
		return api.ErrDown
	}
	b.squares[square].last = slices.Clone(bytes)
	return api.OK
}

// Dry makes all wet squares dry.
func (b *Board) Dry() api.Errno {
	if b.Down() || b.fails() {
		return api.ErrDown
	}
	b.dry()
	return api.OK
}

// Read returns what a square has by now.
func (b *Board) Read(square int) ([]byte, api.Errno) {
	if b.Down() {
		return nil, api.ErrDown
	}
	if !b.has(square) {
		return nil, api.ErrArg
	}
	return slices.Clone(b.squares[square].last), api.OK
}

// Arm makes the n-th call from now on fail that would change the board; none does
// if n is below 1.
func (b *Board) Arm(n int) {
	if b.is() {
		b.armed = max(n, 0)
	}
}

// Fire takes away what was written on wet squares, but for those in keep.
func (b *Board) Fire(keep []int) {
	if !b.is() {
		return
	}
	kept := make([]bool, len(b.squares))
	for _, i := range keep {
		if b.has(i) {
			kept[i] = true
		}
	}
	for i := range b.squares {
		if !kept[i] {
			b.squares[i].last = b.squares[i].dried
		}
	}
	b.dry()
	b.down, b.armed = false, 0
	b.fires++
}

// Down reports whether a board is down.
func (b *Board) Down() bool {
	return !b.is() || b.down
}

// Copy returns a board that is the same, also in what is armed.
func (b *Board) Copy() *Board {
	if !b.is() {
		return nil
	}
	out := *b
	out.squares = slices.Clone(b.squares)
	return &out
}

// is reports whether a board is neither nil nor the zero value, which has no
// squares.
func (b *Board) is() bool {
	return b.Squares() > 0
}

func (b *Board) has(square int) bool {
	return 0 <= square && square < len(b.squares)
}

// fails reports whether a call on a board that is up is the one that is armed, with
// which the board goes down.
func (b *Board) fails() bool {
	if b.armed > 0 {
		b.armed--
		b.down = b.armed == 0
	}
	return b.down
}

func (b *Board) dry() {
	for i := range b.squares {
		b.squares[i].dried = b.squares[i].last
	}
}
