package record_test

import (
	"bytes"
	"slices"
	"testing"

	"interregnum/record"
)

// three are bodies of one, three and two blocks.
func three() [][]byte {
	return [][]byte{[]byte("ab"), mixed(150, 1), mixed(59, 2)}
}

// joined returns the blocks of bodies, concatenated.
func joined(bodies ...[]byte) []byte {
	var b []byte
	for _, body := range bodies {
		b = append(b, blocksOf(body)...)
	}
	return b
}

// before returns how many of the bodies three, and how many blocks of them, are before the body of a block.
func before(block int) (bodies, blocks int) {
	switch {
	case block < 1:
		return 0, 0
	case block < 4:
		return 1, 1
	}
	return 2, 4
}

// mustReadBefore fails the test if b is not read as the bodies three before that of a block, and no others.
func mustReadBefore(t *testing.T, b []byte, block int) {
	t.Helper()
	bodies, blocks := before(block)
	mustRead(t, b, three()[:bodies], blocks)
}

func TestBodiesAreReadAsTheyWereCut(t *testing.T) {
	var all [][]byte
	var b []byte
	for _, body := range samples() {
		cut := mustCut(t, body)
		mustRead(t, cut, [][]byte{body}, record.Blocks(len(body)))
		all, b = append(all, body), append(b, cut...)
	}
	mustRead(t, b, all, len(b)/blockLen)
}

func TestEmptyBodiesAreRead(t *testing.T) {
	for count := range 20 {
		mustRead(t, bytes.Repeat(blocksOf(nil), count), make([][]byte, count), count)
	}
	mustRead(t, joined(nil, []byte("a"), nil, make([]byte, 58), nil), [][]byte{nil, []byte("a"), nil, make([]byte, 58), nil}, 5)
}

func TestBlocksThatAreMissingAtTheEnd(t *testing.T) {
	b := joined(three()...)
	for count := range len(b) / blockLen {
		mustReadBefore(t, b[:count*blockLen], count)
	}
	mustRead(t, b, three(), 6)
}

func TestWhatIsLeftAfterTheLastWholeBlockDoesNotMatter(t *testing.T) {
	next := blocksOf([]byte("next"))
	for count := range 7 {
		whole := joined(three()...)[:count*blockLen]
		for size := range blockLen {
			for _, left := range [][]byte{next[:size], make([]byte, size), bytes.Repeat([]byte{1}, size), mixed(size, 3)} {
				bodies, blocks := read(whole)
				mustRead(t, slices.Concat(whole, left), bodies, blocks)
			}
		}
	}
}

func TestLessThanABlockIsNotRead(t *testing.T) {
	for size := range blockLen {
		mustRead(t, blocksOf(nil)[:size], nil, 0)
		mustRead(t, make([]byte, size), nil, 0)
		mustRead(t, bytes.Repeat([]byte{1}, size), nil, 0)
		mustRead(t, bytes.Repeat([]byte{255}, size), nil, 0)
	}
}

func TestOtherBytesAreNotRead(t *testing.T) {
	for x := range 256 {
		mustRead(t, bytes.Repeat([]byte{byte(x)}, 10*blockLen), nil, 0)
		mustReadAsSaid(t, mixed(10*blockLen, uint32(x)))
		mustRead(t, append([]byte{byte(x)}, joined(three()...)...), nil, 0)
	}
	for at := 1; at < blockLen; at++ {
		mustRead(t, joined(three()...)[at:], nil, 0)
	}
}

func TestTheLastByteOfABlockIsOne(t *testing.T) {
	whole := joined(three()...)
	for block := range len(whole) / blockLen {
		for x := range 256 {
			b := slices.Clone(whole)
			b[block*blockLen+63] = byte(x)
			if x == 1 {
				mustRead(t, b, three(), 6)
			} else {
				mustReadBefore(t, b, block)
			}
		}
	}
}

func TestNothingIsReadAfterABlockThatIsNotComplete(t *testing.T) {
	whole := joined(three()...)
	for block := range len(whole) / blockLen {
		for _, other := range [][]byte{make([]byte, blockLen), bytes.Repeat([]byte{255}, blockLen), stating(0, nil), stating(1, []byte("ab"))} {
			b := slices.Clone(whole)
			copy(b[block*blockLen:], other)
			mustReadBefore(t, b, block)
			mustReadBefore(t, slices.Concat(b, whole), block)
			mustReadBefore(t, slices.Insert(slices.Clone(whole), block*blockLen, other...), block)
		}
	}
}

// The mark is the last byte that is written, so what is written of a block before it does not count.
func TestBlocksThatWereWrittenInPartAreNotComplete(t *testing.T) {
	whole := joined(three()...)
	for size := range len(whole) {
		b := make([]byte, len(whole))
		copy(b, whole[:size])
		mustReadBefore(t, b, size/blockLen)
	}
}

func TestWhatABlockStates(t *testing.T) {
	taken := 0
	for kind := range 256 {
		for size := range 256 {
			for _, follow := range [][]byte{nil, bytes.Repeat([]byte{7}, min(size, room)), bytes.Repeat([]byte{7}, room)} {
				b := sealed(append([]byte{byte(kind), byte(size)}, follow...)...)
				mustReadAsSaid(t, b)
				if bodies, _ := record.Read(append(b, stating(2, nil)...)); len(bodies) > 0 {
					taken++
				}
			}
		}
	}
	// Of the kind 2: 59 sizes with zero bytes, with as many bytes as they state, and once with all; of the kind 1: that of a whole piece, three times.
	if want := 59 + 59 + 1 + 3; taken != want {
		t.Errorf("%d blocks are complete, not %d", taken, want)
	}
}

func TestAPieceThatIsNotTheLastOneIsWhole(t *testing.T) {
	end := stating(2, []byte("end"))
	for size := range room + 1 {
		piece := bytes.Repeat([]byte{'x'}, size)
		b := append(stating(1, piece), end...)
		if size < room {
			mustRead(t, b, nil, 0)
			mustRead(t, slices.Concat(end, b), [][]byte{[]byte("end")}, 1)
		} else {
			mustRead(t, b, [][]byte{append(piece, "end"...)}, 2)
		}
	}
}

func TestZeroBytesFollowAPiece(t *testing.T) {
	for size := range room {
		piece := bytes.Repeat([]byte{'x'}, size)
		for at := size; at < room; at++ {
			for _, x := range []byte{1, 128, 255} {
				states := append([]byte{2, byte(size)}, make([]byte, room)...)
				copy(states[2:], piece)
				states[2+at] = x
				mustRead(t, sealed(states...), nil, 0)
			}
		}
		mustRead(t, stating(2, piece), [][]byte{piece}, 1)
	}
}

func TestEachByteOfABlockCounts(t *testing.T) {
	for _, whole := range [][]byte{blocksOf(nil), blocksOf([]byte("ab")), blocksOf(mixed(58, 4))} {
		for at := range blockLen {
			for x := 1; x < 256; x++ {
				b := slices.Clone(whole)
				b[at] ^= byte(x)
				mustRead(t, b, nil, 0)
			}
		}
	}
}

// A last block states an empty piece by itself, whatever was before it; Cut returns none such after others.
func TestAnEmptyPieceAfterAWholeOne(t *testing.T) {
	piece := mixed(58, 5)
	mustRead(t, slices.Concat(stating(1, piece), stating(2, nil)), [][]byte{piece}, 2)
	mustRead(t, slices.Concat(stating(1, piece), stating(1, piece), stating(2, nil), stating(2, nil)), [][]byte{append(slices.Clone(piece), piece...), nil}, 4)
}

// invert inverts the bits of b that pattern names: its highest of 24 bits stands for the bit at the offset start.
func invert(b []byte, start int, pattern uint32) []byte {
	turned := slices.Clone(b)
	for i := range 24 {
		if pattern>>(23-i)&1 == 1 {
			turned[(start+i)/8] ^= 0x80 >> ((start + i) % 8)
		}
	}
	return turned
}

// patterns returns bits to invert within 24: each one, each two, all, and some without a pattern.
func patterns(seed uint32) []uint32 {
	list := []uint32{0xffffff}
	for first := range 24 {
		list = append(list, 1<<first)
		for second := range first {
			list = append(list, 1<<first|1<<second)
		}
	}
	for i := range uint32(20) {
		p := mixed(3, 1000*seed+i)
		list = append(list, uint32(p[0])<<16|uint32(p[1])<<8|uint32(p[2])|1)
	}
	return list
}

func TestInvertedBitsWithin24EndTheReading(t *testing.T) {
	whole := joined(three()...)
	for block := range len(whole) / blockLen {
		for start := range 8*blockLen - 23 {
			// A sixteenth of the patterns for each start, another one for the next: all of them for each would take minutes.
			list := patterns(uint32(start))
			for i := start % 16; i < len(list); i += 16 {
				mustReadBefore(t, invert(whole, 8*blockLen*block+start, list[i]), block)
			}
		}
	}
}

func TestInvertedBitsInTheLongestBody(t *testing.T) {
	long := mixed(maxBody, 6)
	whole := joined([]byte("ab"), long, []byte("after"))
	mustRead(t, whole, [][]byte{[]byte("ab"), long, []byte("after")}, 567)
	for block := 1; block < 566; block += 47 {
		for _, pattern := range []uint32{1, 0x800000, 0xffffff, 0x864cfb} {
			mustRead(t, invert(whole, 8*blockLen*block+488, pattern), [][]byte{[]byte("ab")}, 1)
			mustRead(t, invert(whole, 8*blockLen*block+100, pattern), [][]byte{[]byte("ab")}, 1)
		}
	}
}

func TestBodiesUpToMaxBodyAreRead(t *testing.T) {
	full := bytes.Repeat(stating(1, bytes.Repeat([]byte{'x'}, room)), 564)
	first, after := []byte("ab"), []byte("after")
	for size := range room + 1 {
		b := slices.Concat(blocksOf(first), full, stating(2, bytes.Repeat([]byte{'x'}, size)), blocksOf(after))
		if long := 564*room + size; long <= maxBody {
			mustRead(t, b, [][]byte{first, bytes.Repeat([]byte{'x'}, long), after}, 567)
		} else {
			mustRead(t, b, [][]byte{first}, 1)
		}
	}
}

func TestBodiesBeyondMaxBodyEndTheReading(t *testing.T) {
	whole := stating(1, make([]byte, room))
	for _, count := range []int{565, 566, 600, 1024, 5000} {
		b := append(bytes.Repeat(whole, count), blocksOf([]byte("end"))...)
		mustRead(t, b, nil, 0)
		mustRead(t, append(joined(three()...), b...), three(), 6)
		mustRead(t, b[:count*blockLen], nil, 0)
	}
}

// TestAnySequenceOfBlocks reads blocks of all kinds in any order, and compares with what the document says.
func TestAnySequenceOfBlocks(t *testing.T) {
	parts := [][]byte{stating(2, nil), stating(2, []byte("ab")), stating(2, mixed(58, 7)), stating(1, mixed(58, 8)), stating(1, make([]byte, 58)),
		blocksOf(mixed(150, 9)), stating(1, []byte("ab")), stating(3, nil), sealed(2, 1, 0, 1), make([]byte, 64), stating(2, nil)[:63]}
	several := 0
	for seed := range uint32(20000) {
		var b []byte
		for _, x := range mixed(int(seed%12), seed) {
			// Most of them are complete, so that there is something to read.
			if i := int(x) % 64; i < len(parts) {
				b = append(b, parts[i]...)
			} else {
				b = append(b, parts[i%6]...)
			}
		}
		mustReadAsSaid(t, b)
		if bodies, _ := record.Read(b); len(bodies) > 2 {
			several++
		}
	}
	if several < 1000 {
		t.Errorf("only %d sequences are several bodies", several)
	}
}

func TestReadLeavesTheArgument(t *testing.T) {
	whole := append(joined(three()...), joined(three()...)...)
	kept := slices.Clone(whole)
	for size := range len(whole) + 1 {
		bodies, blocks := read(kept[:size:size])
		mustRead(t, whole[:size], bodies, blocks)
	}
	if !bytes.Equal(whole, kept) {
		t.Error("the blocks were changed")
	}
}

func TestReadReturnsNewMemory(t *testing.T) {
	want := [][]byte{[]byte("ab"), mixed(150, 1), nil, []byte("ab"), mixed(58, 2), mixed(59, 3)}
	b := joined(want...)
	kept := slices.Clone(b)
	one, _ := record.Read(b)
	other, _ := record.Read(b)
	for i := range one {
		// Everything up to the capacity belongs to this body alone.
		whole := one[i][:cap(one[i])]
		for j := range whole {
			whole[j] = 0xee
		}
		for j := range one {
			if j > i && !bytes.Equal(one[j], want[j]) {
				t.Errorf("body %d changed with body %d", j, i)
			}
		}
	}
	if !bytes.Equal(b, kept) || !slices.EqualFunc(other, want, bytes.Equal) {
		t.Error("the blocks, or another result, changed with a result")
	}
	clear(b)
	clear(one)
	if !slices.EqualFunc(other, want, bytes.Equal) {
		t.Error("a result changed with the blocks")
	}
}
