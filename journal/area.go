package journal

import (
	"bytes"

	"interregnum/api"
	"interregnum/block"
	"interregnum/pack"
	"interregnum/record"
)

// Area is the number of blocks of each of the two areas.
const Area = api.Blocks / 2

// bodyBlocks is the number of blocks of an area for bodies: all but the first one, which states the generation.
const bodyBlocks = Area - 1

// maxGeneration is the greatest generation of a valid area.
const maxGeneration = 1 << 62

// content is what an area stores. That of an area that is not valid is the zero one, since no generation is 0.
type content struct {
	generation int
	// bodies are the snapshot and the records.
	bodies [][]byte
	// left is the number of blocks after the last body.
	left int
}

// begun returns the content of an area that was restarted with a snapshot, of which these are the blocks.
func begun(snapshot, blocks []byte, generation int) content {
	return content{generation, [][]byte{bytes.Clone(snapshot)}, bodyBlocks - count(blocks)}
}

// end returns the block after the last body, in the area of a turn.
func (c content) end(turn int) int {
	return start(turn) + Area - c.left
}

// start returns the first block of the area of a turn: after one area, the other one has its turn.
func start(turn int) int {
	return turn % 2 * Area
}

// latest returns the content with the greatest generation, of two equal ones the first one, and its turn. If no area is valid, the turn is 0.
func latest(s *block.Store) (int, content, api.Errno) {
	turn, c := 0, content{}
	for i := range 2 {
		next, err := read(s, i)
		if err != api.OK {
			return 0, content{}, err
		}
		if next.generation > c.generation {
			turn, c = i, next
		}
	}
	return turn, c, api.OK
}

// read returns the content of the area of a turn.
func read(s *block.Store, turn int) (content, api.Errno) {
	b := make([]byte, 0, Area*api.BlockLen)
	for i := range Area {
		next, err := s.Read(start(turn) + i)
		if err != api.OK {
			return content{}, err
		}
		b = append(b, next...)
	}
	generation := generationIn(b[:api.BlockLen])
	bodies, used := record.Read(b[api.BlockLen:])
	if generation == 0 || len(bodies) == 0 {
		return content{}, api.OK
	}
	return content{generation, bodies, bodyBlocks - used}, api.OK
}

// generationIn returns the generation that the first block of an area states, and 0 if it states none.
func generationIn(first []byte) int {
	bodies, _ := record.Read(first)
	if len(bodies) == 0 {
		return 0
	}
	n, end, err := pack.Take(bodies[0], 0)
	if err != api.OK || end != len(bodies[0]) || n > maxGeneration {
		return 0
	}
	return int(n)
}

// restart lets the area of a turn have a snapshot, of which these are the blocks, and a generation.
// The first block is erased first and written last, so that the area is not valid in between.
func restart(s *block.Store, turn, generation int, snapshot []byte) api.Errno {
	at := start(turn)
	if err := erase(s, at, Area); err != api.OK {
		return err
	}
	if err := write(s, at+1, snapshot); err != api.OK {
		return err
	}
	// No number is too long for a body.
	first, _ := record.Cut(pack.Put(nil, uint64(generation)))
	return write(s, at, first)
}

// erase writes zero bytes to the blocks of n from block at on that are not all zero bytes.
func erase(s *block.Store, at, n int) api.Errno {
	var zero [api.BlockLen]byte
	for i := range n {
		b, err := s.Read(at + i)
		if err == api.OK && !bytes.Equal(b, zero[:]) {
			err = s.Write(at+i, zero[:])
		}
		if err != api.OK {
			return err
		}
	}
	return api.OK
}

// write writes blocks from block at on.
func write(s *block.Store, at int, blocks []byte) api.Errno {
	for i := range count(blocks) {
		b := blocks[i*api.BlockLen : (i+1)*api.BlockLen]
		if err := s.Write(at+i, b); err != api.OK {
			return err
		}
	}
	return api.OK
}

// cut returns the blocks of a body, of which there is room for so many.
func cut(body []byte, room int) ([]byte, api.Errno) {
	blocks, err := record.Cut(body)
	if err != api.OK {
		return nil, err
	}
	if count(blocks) > room {
		return nil, api.ErrFull
	}
	return blocks, api.OK
}

// count returns how many blocks these are.
func count(blocks []byte) int {
	return len(blocks) / api.BlockLen
}
