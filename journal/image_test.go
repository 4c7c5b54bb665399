package journal_test

import (
	"bytes"
	"maps"
	"math"
	"slices"
	"testing"

	"interregnum/api"
	"interregnum/block"
	"interregnum/journal"
	"interregnum/pack"
	"interregnum/record"
)

// The numbers of the document, written out: the tests must not take them from the package.
const (
	blockLen = 64
	area     = 512
	room     = 58
	maxBody  = 32768
	// maxFirst is the number of bytes of the longest snapshot: 511 blocks have room for it.
	maxFirst = 511 * room
)

// image is what a store has: its blocks that are not all zero bytes.
type image map[int][blockLen]byte

// imageOf returns what a store has.
func imageOf(s *block.Store) image {
	return image{}.put(0, s.Bytes())
}

// change is a write.
type change struct {
	block int
	bytes []byte
}

// blocksOf returns the blocks of bodies, one after the other.
func blocksOf(bodies ...[]byte) []byte {
	var b []byte
	for _, body := range bodies {
		next, err := record.Cut(body)
		if err != api.OK {
			panic("a body that is too long")
		}
		b = append(b, next...)
	}
	return b
}

// head returns the first block of an area with this generation.
func head(generation uint64) []byte {
	return blocksOf(pack.Put(nil, generation))
}

// put lays bytes from a block on.
func (m image) put(at int, list []byte) image {
	for ; len(list) > 0; at++ {
		b := m[at]
		list = list[copy(b[:], list):]
		if b == [blockLen]byte{} {
			delete(m, at)
		} else {
			m[at] = b
		}
	}
	return m
}

// get returns the bytes of n blocks.
func (m image) get(at, n int) []byte {
	list := make([]byte, 0, n*blockLen)
	for i := at; i < at+n; i++ {
		b := m[i]
		list = append(list, b[:]...)
	}
	return list
}

// with lays a whole area: a generation and bodies, from the block at on.
func (m image) with(at int, generation uint64, bodies ...[]byte) image {
	return m.put(at, head(generation)).put(at+1, blocksOf(bodies...))
}

// after returns the image after changes.
func (m image) after(list []change) image {
	m = maps.Clone(m)
	for _, c := range list {
		m.put(c.block, c.bytes)
	}
	return m
}

// cutOff returns the image after the first n changes and the first bytes of the next one.
func (m image) cutOff(list []change, n, part int) image {
	m = m.after(list[:n])
	return m.put(list[n].block, list[n].bytes[:min(max(part, 0), blockLen)])
}

// erasing returns the writes that erase n blocks.
func (m image) erasing(at, n int) []change {
	var list []change
	for i := at; i < at+n; i++ {
		if _, ok := m[i]; ok {
			list = append(list, change{i, make([]byte, blockLen)})
		}
	}
	return list
}

// laying returns the writes of a body from a block on.
func laying(at int, body []byte) []change {
	var list []change
	b := blocksOf(body)
	for i := range len(b) / blockLen {
		list = append(list, change{at + i, b[i*blockLen : (i+1)*blockLen]})
	}
	return list
}

// restarting returns the writes that restart the area that begins at a block.
func (m image) restarting(at int, generation uint64, snapshot []byte) []change {
	return slices.Concat(m.erasing(at, area), laying(at+1, snapshot), []change{{at, head(generation)}})
}

// found is what a journal has: the first block of its area, its generation, its bodies, and the number of their blocks.
type found struct {
	at         int
	generation uint64
	bodies     [][]byte
	used       int
}

// in returns what the area that begins at a block has; its generation is 0 if it is not valid.
func (m image) in(at int) found {
	bodies, used := record.Read(m.get(at+1, area-1))
	heads, _ := record.Read(m.get(at, 1))
	if len(bodies) == 0 || len(heads) == 0 {
		return found{at: at}
	}
	n, _, err := pack.Take(heads[0], 0)
	if err != api.OK || !bytes.Equal(heads[0], pack.Put(nil, n)) || n > 1<<62 {
		return found{at: at}
	}
	return found{at, n, bodies, used}
}

// opening returns what Open finds, and its writes.
func (m image) opening(first []byte) (found, []change) {
	f := m.in(0)
	if second := m.in(area); second.generation > f.generation {
		f = second
	}
	if f.generation == 0 {
		list := m.restarting(0, 1, first)
		return m.after(list).in(0), list
	}
	return f, m.erasing(f.at+1+f.used, area-1-f.used)
}

// adding returns what the journal has after Add, and its writes.
func (f found) adding(body []byte) (found, []change) {
	list := laying(f.at+1+f.used, body)
	f.bodies = append(slices.Clone(f.bodies), body)
	f.used += len(list)
	return f, list
}

// rewriting returns what the journal has after Rewrite, and its writes.
func (m image) rewriting(f found, snapshot []byte) (found, []change) {
	other := area - f.at
	used := len(blocksOf(snapshot)) / blockLen
	return found{other, f.generation + 1, [][]byte{snapshot}, used}, m.restarting(other, f.generation+1, snapshot)
}

// store returns a store with these bytes, and the number of its writes.
func (m image) store(t *testing.T) (*block.Store, int) {
	t.Helper()
	s := block.New()
	for i := range 2 * area {
		b, ok := m[i]
		if !ok {
			continue
		}
		if err := s.Write(i, b[:]); err != api.OK {
			t.Fatalf("Write to block %d: error %d", i, err)
		}
	}
	return s, s.Writes()
}

// mixed returns size bytes without a pattern, the same ones for the same arguments.
func mixed(size int, seed uint32) []byte {
	b := make([]byte, size)
	seed = seed*2654435761 + 1
	for i := range b {
		seed = seed*1664525 + 1013904223
		b[i] = byte(seed >> 24)
	}
	return b
}

// sizes are lengths of bodies of none, few and many blocks.
func sizes() []int {
	return []int{0, 1, 2, 57, 58, 59, 115, 116, 117, 300, 5800, 5801}
}

// bodies are such of one and of several blocks, and such that contain what looks like blocks or like nothing.
func bodies() [][]byte {
	list := [][]byte{nil, {}, {0}, {1}, {2}, {1, 1}, []byte("a"), []byte("some record"), make([]byte, 58), make([]byte, 200), bytes.Repeat([]byte{255}, 117), bytes.Repeat([]byte{1}, 64), head(3), blocksOf([]byte("x"), []byte("y"))}
	for i, size := range sizes() {
		list = append(list, mixed(size, uint32(i)))
	}
	return list
}

// tooLong are lengths that no body has.
func tooLong() []int {
	return []int{maxBody + 1, maxBody + 2, maxBody + 58, 2 * maxBody, 65536 + 1, 1 << 20}
}

// tooMany are lengths of bodies that are no snapshots: they have more than 511 blocks.
func tooMany() []int {
	return []int{maxFirst + 1, maxFirst + 2, maxFirst + room, 512*room + 1, maxBody - 1, maxBody}
}

func mustOpen(t *testing.T, s *block.Store, first []byte) *journal.Journal {
	t.Helper()
	j, err := journal.Open(s, first)
	if err != api.OK || j == nil {
		t.Fatalf("Open: journal %v, error %d", j != nil, err)
	}
	return j
}

// mustNotOpen fails the test if Open answers anything but this error.
func mustNotOpen(t *testing.T, s *block.Store, first []byte, want api.Errno) {
	t.Helper()
	if j, err := journal.Open(s, first); err != want || j != nil {
		t.Fatalf("Open with %d bytes: journal %v, error %d, not %d", len(first), j != nil, err, want)
	}
}

func mustAdd(t *testing.T, j *journal.Journal, body []byte, want api.Errno) {
	t.Helper()
	if err := j.Add(body); err != want {
		t.Fatalf("Add of %d bytes: error %d, not %d", len(body), err, want)
	}
}

func mustRewrite(t *testing.T, j *journal.Journal, snapshot []byte, want api.Errno) {
	t.Helper()
	if err := j.Rewrite(snapshot); err != want {
		t.Fatalf("Rewrite with %d bytes: error %d, not %d", len(snapshot), err, want)
	}
}

// mustHave fails the test if the journal has anything else.
func mustHave(t *testing.T, j *journal.Journal, f found) {
	t.Helper()
	if b := j.Snapshot(); !bytes.Equal(b, f.bodies[0]) {
		t.Fatalf("snapshot %.80x, not %.80x", b, f.bodies[0])
	}
	if list := j.Records(); !slices.EqualFunc(list, f.bodies[1:], bytes.Equal) {
		t.Fatalf("%d records %.80x, not %d: %.80x", len(list), list, len(f.bodies)-1, f.bodies[1:])
	}
	if j.Left() != area-1-f.used || j.Generation() != int(f.generation) {
		t.Fatalf("%d blocks left, generation %d, not %d, %d", j.Left(), j.Generation(), area-1-f.used, f.generation)
	}
}

// mustBe fails the test if the store has other bytes, or another number of writes.
func mustBe(t *testing.T, s *block.Store, m image, writes int) {
	t.Helper()
	b := s.Bytes()
	for i := range 2 * area {
		if got, want := [blockLen]byte(b[i*blockLen:]), m[i]; got != want {
			t.Fatalf("block %d is %x, not %x", i, got, want)
		}
	}
	if s.Writes() != writes {
		t.Fatalf("%d writes, not %d", s.Writes(), writes)
	}
}

// mustBeNone fails the test if the journal is not like one that was never opened.
func mustBeNone(t *testing.T, j *journal.Journal) {
	t.Helper()
	for _, size := range []int{0, 1, 59, maxFirst + 1, maxBody, maxBody + 1} {
		mustAdd(t, j, make([]byte, size), api.ErrArg)
		mustRewrite(t, j, make([]byte, size), api.ErrArg)
	}
	mustAdd(t, j, nil, api.ErrArg)
	mustRewrite(t, j, nil, api.ErrArg)
	if len(j.Snapshot()) != 0 || len(j.Records()) != 0 || j.Left() != 0 || j.Generation() != 0 {
		t.Fatalf("snapshot %x, records %x, %d blocks left, generation %d", j.Snapshot(), j.Records(), j.Left(), j.Generation())
	}
}

// parts are those of a block that a power failure leaves: none, some, and all of it.
func parts() []int {
	return []int{math.MinInt, 0, 1, 32, 62, 63, 64, math.MaxInt}
}
