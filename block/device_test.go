package block_test

import (
	"bytes"
	"math"
	"slices"
	"testing"

	"interregnum/api"
	"interregnum/block"
)

// The numbers of the document, written out: the tests must not take them from the package.
const (
	blockLen = 64
	blocks   = 1024
)

// beyond returns numbers of which there is no block.
func beyond() []int {
	return []int{-1, -2, -64, -blocks, -blocks - 1, blocks, blocks + 1, 2 * blocks, 65535, 65536, 1 << 32, 1<<32 + 1, -1 << 32, math.MaxInt, math.MaxInt - 1, math.MinInt, math.MinInt + 1}
}

// wrongSizes returns lengths that no block has.
func wrongSizes() []int {
	return []int{0, 1, 2, 62, 63, 65, 66, 127, 128, 192, 256 + 64, 1024, 65536, 65536 + 64}
}

// filled returns a block of equal bytes.
func filled(v byte) []byte {
	return bytes.Repeat([]byte{v}, blockLen)
}

// mixed returns size bytes without a pattern, none of them 0, the same ones for the same arguments.
func mixed(size int, seed uint32) []byte {
	b := make([]byte, size)
	seed = seed*2654435761 + 1
	for i := range b {
		seed = seed*1664525 + 1013904223
		b[i] = byte(1 + (seed>>16)%255)
	}
	return b
}

// written returns a store with bytes in all blocks, its bytes, and the number of its writes.
func written(t *testing.T) (*block.Store, []byte, int) {
	t.Helper()
	s := block.New()
	all := mixed(blocks*blockLen, 7)
	for i := range blocks {
		mustWrite(t, s, i, all[i*blockLen:(i+1)*blockLen], api.OK)
	}
	return s, all, blocks
}

// mustWrite fails the test if Write answers another error.
func mustWrite(t *testing.T, s *block.Store, i int, b []byte, want api.Errno) {
	t.Helper()
	if err := s.Write(i, b); err != want {
		t.Fatalf("Write of %d bytes to block %d: error %d, not %d", len(b), i, err, want)
	}
}

// mustRead fails the test if Read answers anything else.
func mustRead(t *testing.T, s *block.Store, i int, b []byte, want api.Errno) {
	t.Helper()
	if got, err := s.Read(i); err != want || !bytes.Equal(got, b) {
		t.Fatalf("Read of block %d: %x, error %d, not %x, error %d", i, got, err, b, want)
	}
}

// mustBe fails the test if the store does not have these bytes, this power, and this number of writes.
func mustBe(t *testing.T, s *block.Store, all []byte, down bool, writes int) {
	t.Helper()
	if got := s.Bytes(); !bytes.Equal(got, all) {
		t.Fatalf("%d bytes, not the %d ones that are expected; the first other one is %d", len(got), len(all), differs(got, all))
	}
	if s.Down() != down || s.Writes() != writes {
		t.Fatalf("down %v, %d writes, not %v, %d", s.Down(), s.Writes(), down, writes)
	}
}

// differs returns the number of the first byte that is not the same.
func differs(a, b []byte) int {
	for i := range min(len(a), len(b)) {
		if a[i] != b[i] {
			return i
		}
	}
	return min(len(a), len(b))
}

// mustNotBeArmed fails the test if one of many writes is interrupted. It leaves what is stored.
func mustNotBeArmed(t *testing.T, s *block.Store) {
	t.Helper()
	all := s.Bytes()
	for i := range 3 * blocks {
		at := i % blocks
		mustWrite(t, s, at, all[at*blockLen:(at+1)*blockLen], api.OK)
	}
}

// device is a store as the document specifies it: a line of bytes, and how many writes are still performed (-1 if it is not armed).
type device struct {
	bytes  []byte
	off    bool
	armed  int
	part   int
	writes int
}

func newDevice() *device {
	return &device{bytes: make([]byte, blocks*blockLen), armed: -1}
}

func (d *device) write(i int, b []byte) api.Errno {
	if d.off {
		return api.ErrLost
	}
	if i < 0 || i > 1023 || len(b) != 64 {
		return api.ErrArg
	}
	d.writes++
	size := 64
	if d.armed == 0 {
		size = d.part
		d.off = true
	}
	if d.armed >= 0 {
		d.armed--
	}
	for k, v := range b {
		if k < size {
			d.bytes[i*64+k] = v
		}
	}
	if d.off {
		return api.ErrLost
	}
	return api.OK
}

func (d *device) read(i int) ([]byte, api.Errno) {
	if d.off {
		return nil, api.ErrLost
	}
	if i < 0 || i > 1023 {
		return nil, api.ErrArg
	}
	return slices.Clone(d.bytes[i*64 : i*64+64]), api.OK
}

func (d *device) arm(writes, part int) {
	d.armed, d.part = max(writes, -1), part
}

func (d *device) power() {
	d.off, d.armed = false, -1
}
