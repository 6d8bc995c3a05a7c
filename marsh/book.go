package marsh

import (
	"bytes"
	"slices"

	"sedge/api"
)

const (
	maxSeason  = 65535
	maxEntries = 1000 // more than a board has squares
	maxPart    = 30   // bytes of a part of an entry
	maxParts   = 5
	headBytes  = 6 // in front of a part
)

// Book is a list of entries on a board.
type Book struct {
	board   *Board
	entries [][]byte
	season  int
	fires   int  // how many there were on the board when the book was opened
	failed  bool // a call has returned ErrDown
}

// OpenBook returns the book on a board.
func OpenBook(b *Board) (*Book, api.Errno) {
	if b.Down() {
		return nil, api.ErrDown
	}
	season := 1 + lastSeason(b)
	if season > maxSeason {
		return nil, api.ErrLimit
	}
	return &Book{board: b, entries: entriesOn(b), season: season, fires: b.fires}, api.OK
}

// Entries returns the entries of a book.
func (k *Book) Entries() [][]byte {
	if k == nil {
		return nil
	}
	var out [][]byte
	for _, entry := range k.entries {
		out = append(out, slices.Clone(entry))
	}
	return out
}

// Season returns the season in which a book writes.
func (k *Book) Season() int {
	if k == nil {
		return 0
	}
	return k.season
}

// Put writes an entry behind the others, and makes it dry.
func (k *Book) Put(entry []byte) api.Errno {
	if !k.is() {
		return api.ErrDown
	}
	if k.Dead() {
		return api.ErrDead
	}
	if len(entry) == 0 || len(entry) > api.MaxEntry {
		return api.ErrArg
	}
	squares := squaresOf(entry, k.season, len(k.entries)+1)
	first := k.written()
	if first+len(squares) > k.board.Squares() || len(k.entries) >= maxEntries {
		return api.ErrFull
	}
	// A book that goes on in its season could mix its parts with those that it has left on the board.
	if !k.write(first, squares) {
		k.failed = true
		return api.ErrDown
	}
	k.entries = append(k.entries, slices.Clone(entry))
	return api.OK
}

// Dead reports whether a book has become useless.
func (k *Book) Dead() bool {
	return !k.is() || k.failed || k.fires != k.board.fires
}

// is reports whether a book is neither nil nor the zero value.
func (k *Book) is() bool {
	return k != nil && k.board != nil
}

// written returns how many squares the entries have.
func (k *Book) written() int {
	sum := 0
	for _, entry := range k.entries {
		sum += partsOf(entry)
	}
	return sum
}

// write writes on squares from one on, and makes them dry. It reports whether the
// board stays up.
func (k *Book) write(first int, squares [][]byte) bool {
	for i, square := range squares {
		if k.board.Write(first+i, square) != api.OK {
			return false
		}
	}
	return k.board.Dry() == api.OK
}

// lastSeason returns the greatest season that a square names, 0 if none does.
func lastSeason(b *Board) int {
	last := 0
	for i := range b.squares {
		if square := b.squares[i].last; len(square) >= headBytes {
			last = max(last, seasonOf(square))
		}
	}
	return last
}

// entriesOn returns the entries of a board.
func entriesOn(b *Board) [][]byte {
	var out [][]byte
	rest := b.squares
	for {
		entry, is := firstEntry(rest, len(out)+1)
		if !is {
			return out
		}
		out = append(out, entry)
		rest = rest[partsOf(entry):]
	}
}

// firstEntry returns the entry with a number that is written on squares from the
// first one on, and false if there is none.
func firstEntry(squares []writing, number int) ([]byte, bool) {
	if len(squares) == 0 || len(squares[0].last) < headBytes {
		return nil, false
	}
	season, parts := seasonOf(squares[0].last), int(squares[0].last[headBytes-1])
	if parts < 1 || parts > min(maxParts, len(squares)) {
		return nil, false
	}
	var entry []byte
	for p := range parts {
		part, is := bytes.CutPrefix(squares[p].last, head(season, number, p, parts))
		if !is || len(part) == 0 || p < parts-1 && len(part) < maxPart {
			return nil, false
		}
		entry = append(entry, part...)
	}
	return entry, true
}

// squaresOf returns what is written for an entry.
func squaresOf(entry []byte, season, number int) [][]byte {
	var out [][]byte
	for part := range slices.Chunk(entry, maxPart) {
		out = append(out, append(head(season, number, len(out), partsOf(entry)), part...))
	}
	return out
}

// head returns what stands in front of a part.
func head(season, number, part, parts int) []byte {
	return []byte{byte(season >> 8), byte(season), byte(number >> 8), byte(number), byte(part), byte(parts)}
}

func seasonOf(square []byte) int {
	return int(square[0])<<8 | int(square[1])
}

func partsOf(entry []byte) int {
	return (len(entry) + maxPart - 1) / maxPart
}
