package wal

import (
	"bytes"
	"slices"

	"concordat/sum"
	"concordat/word"
)

const (
	numberBytes = 4
	firstAt     = numberBytes
	countAt     = firstAt + numberBytes
	roomAt      = countAt + 1
	roomBytes   = 16
	beginBit    = 128
)

// sector is one of a log's.
type sector struct {
	number int
	first  int // the first number that counts
	begins bool
	has    []byte // of records, at most as many as there is room for
}

// bytes: as they stand on a disk.
func (s sector) bytes() []byte {
	count := byte(len(s.has))
	if s.begins {
		count |= beginBit
	}
	var room [roomBytes]byte
	copy(room[:], s.has)
	number := numberOf(s.number)
	sealed := sum.Seal(slices.Concat(number, numberOf(s.first), []byte{count}, room[:]))
	return append(sealed, number...)
}

func numberOf(n int) []byte {
	return word.Bytes(uint64(n), numberBytes)
}

// readSector: the sector of a disk's bytes, if they are a log's.
func readSector(b []byte) (sector, bool) {
	count := b[countAt]
	n := min(int(count&^beginBit), roomBytes)
	s := sector{
		number: readNumber(b),
		first:  readNumber(b[firstAt:]),
		begins: count&beginBit != 0,
		has:    b[roomAt : roomAt+n],
	}
	// Reading takes any bytes; writing it again tells whether they are a log's sector.
	if s.number == 0 || !bytes.Equal(b, s.bytes()) {
		return sector{}, false
	}
	return s, true
}

func readNumber(b []byte) int {
	u, _ := word.From(b[:numberBytes])
	return int(u)
}
