package record_test

import (
	"bytes"
	"slices"
	"testing"

	"interregnum/api"
	"interregnum/record"
	"interregnum/seal"
)

// The numbers of the document, written out: the tests must not take them from the package.
const (
	blockLen = 64
	room     = 58
	maxBody  = 32768
)

// sealed returns a block that states these bytes (at most 60; zero bytes follow them), with the right checksum and mark.
func sealed(states ...byte) []byte {
	b := slices.Concat(states, make([]byte, 60-len(states)))
	return append(seal.Put(b), 1)
}

// stating returns a block that states the kind and the piece, with the right checksum and mark.
func stating(kind byte, piece []byte) []byte {
	return sealed(append([]byte{kind, byte(len(piece))}, piece...)...)
}

// blocksOf returns the blocks of body as the document defines them.
func blocksOf(body []byte) []byte {
	var b []byte
	for ; len(body) > room; body = body[room:] {
		b = append(b, stating(1, body[:room])...)
	}
	return append(b, stating(2, body)...)
}

// mixed returns size bytes without a pattern, the same ones for the same arguments.
func mixed(size int, seed uint32) []byte {
	b := make([]byte, size)
	seed = seed*2654435761 + 1
	for i := range b {
		seed = seed*1664525 + 1013904223
		b[i] = byte(seed >> 24)
	}
	return b
}

// samples are bodies: none, short ones, and such with about as many bytes as some blocks have room for.
func samples() [][]byte {
	list := [][]byte{nil, {}, {0}, {1}, {2}, {255}, []byte("ab"), make([]byte, 58), make([]byte, 59), make([]byte, 116), bytes.Repeat([]byte{255}, 58),
		bytes.Repeat([]byte{1}, 200), bytes.Repeat([]byte{2}, 64), blocksOf([]byte("ab")), blocksOf(mixed(100, 1)), seal.Put([]byte("ab"))}
	for size := range 200 {
		list = append(list, mixed(size, uint32(size)))
	}
	for _, size := range []int{579, 580, 581, 3000, 32711, 32712, 32713, 32767, 32768} {
		list = append(list, mixed(size, uint32(size)))
	}
	return list
}

// complete reports whether b is a complete block, as the document says it.
func complete(b []byte) bool {
	if _, ok := seal.Open(b[:63]); !ok || b[63] != 1 {
		return false
	}
	kind, size := b[0], int(b[1])
	if kind != 1 && kind != 2 || size > room || kind == 1 && size < room {
		return false
	}
	return bytes.Equal(b[2+size:60], make([]byte, room-size))
}

// read is what the document says of Read, step by step.
func read(b []byte) ([][]byte, int) {
	var bodies [][]byte
	var body []byte
	blocks := 0
	for at := 0; at+blockLen <= len(b) && complete(b[at:at+blockLen]); at += blockLen {
		body = append(body, b[at+2:at+2+int(b[at+1])]...)
		if len(body) > maxBody {
			break
		}
		if b[at] == 2 {
			bodies, blocks = append(bodies, body), (at+blockLen)/blockLen
			body = nil
		}
	}
	return bodies, blocks
}

func mustRead(t *testing.T, b []byte, bodies [][]byte, blocks int) {
	t.Helper()
	got, n := record.Read(b)
	if n != blocks || !slices.EqualFunc(got, bodies, bytes.Equal) {
		t.Fatalf("Read of %d bytes %.80x: %d bodies %.80x, %d blocks, not %d bodies %.80x, %d blocks", len(b), b, len(got), got, n, len(bodies), bodies, blocks)
	}
}

// mustReadAsSaid fails the test if Read does not return what the document says.
func mustReadAsSaid(t *testing.T, b []byte) {
	t.Helper()
	bodies, blocks := read(b)
	mustRead(t, b, bodies, blocks)
}

func mustCut(t *testing.T, body []byte) []byte {
	t.Helper()
	b, err := record.Cut(body)
	if err != api.OK {
		t.Fatalf("Cut of %d bytes: error %d", len(body), err)
	}
	return b
}
