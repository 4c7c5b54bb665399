package record_test

import (
	"bytes"
	"math"
	"slices"
	"strings"
	"testing"

	"interregnum/api"
	"interregnum/record"
)

func TestRoomOfABlock(t *testing.T) {
	if record.Room != 58 || api.BlockLen != 64 || api.MaxBody != 32768 {
		t.Errorf("Room is %d, BlockLen %d, MaxBody %d", record.Room, api.BlockLen, api.MaxBody)
	}
}

func TestCutOfKnownBodies(t *testing.T) {
	zeros := strings.Repeat("\x00", 58)
	x := strings.Repeat("x", 58)
	for _, c := range []struct{ body, want string }{
		{"", "\x02\x00" + zeros + "\x8f\x76\x9e\x01"},
		{"ab", "\x02\x02ab" + zeros[2:] + "\xab\x76\xa0\x01"},
		{"x", "\x02\x01x" + zeros[1:] + "\x11\x71\xb1\x01"},
		{"\x00", "\x02\x01\x00" + zeros[1:] + "\x63\x21\x9f\x01"},
		{x, "\x02\x3a" + x + "\x01\x56\x81\x01"},
		{zeros, "\x02\x3a" + zeros + "\xaa\x14\x37\x01"},
		{x + "x", "\x01\x3a" + x + "\xc4\xa3\x48\x01" + "\x02\x01x" + zeros[1:] + "\x11\x71\xb1\x01"},
		{x + x, "\x01\x3a" + x + "\xc4\xa3\x48\x01" + "\x02\x3a" + x + "\x01\x56\x81\x01"},
		{zeros + x + "ab", "\x01\x3a" + zeros + "\x6f\xe1\xfe\x01" + "\x01\x3a" + x + "\xc4\xa3\x48\x01" + "\x02\x02ab" + zeros[2:] + "\xab\x76\xa0\x01"},
	} {
		if b := mustCut(t, []byte(c.body)); string(b) != c.want {
			t.Errorf("Cut(%q) = %q, not %q", c.body, b, c.want)
		}
	}
}

func TestCutReturnsTheBlocksOfTheBody(t *testing.T) {
	for _, body := range samples() {
		if b := mustCut(t, body); !bytes.Equal(b, blocksOf(body)) {
			t.Errorf("Cut of %d bytes: %d bytes %.80x", len(body), len(b), b)
		}
	}
}

func TestBodiesUpToMaxBodyAreCut(t *testing.T) {
	whole := mixed(maxBody+100, 1)
	if b := mustCut(t, whole[:maxBody]); len(b) != 565*blockLen || b[len(b)-64] != 2 || b[len(b)-63] != 56 {
		t.Errorf("Cut of the longest body: %d bytes", len(b))
	}
	for _, size := range []int{maxBody + 1, maxBody + 2, maxBody + 100, 2 * maxBody, 1 << 20} {
		if b, err := record.Cut(make([]byte, size)); len(b) != 0 || err != api.ErrLong {
			t.Errorf("Cut of %d bytes: %d bytes, error %d", size, len(b), err)
		}
	}
}

func TestNumbersOfBlocks(t *testing.T) {
	for _, c := range []struct{ n, want int }{
		{0, 1}, {1, 1}, {57, 1}, {58, 1}, {59, 2}, {115, 2}, {116, 2}, {117, 3}, {174, 3}, {175, 4},
		{32712, 564}, {32713, 565}, {32767, 565}, {32768, 565},
		{32769, 0}, {32770, 0}, {65536, 0}, {1 << 32, 0}, {1<<32 + 1, 0}, {math.MaxInt - 57, 0}, {math.MaxInt, 0},
		{-1, 0}, {-57, 0}, {-58, 0}, {-59, 0}, {-1 << 32, 0}, {-1<<32 + 58, 0}, {math.MinInt, 0}, {math.MinInt + 1, 0},
	} {
		if got := record.Blocks(c.n); got != c.want {
			t.Errorf("Blocks(%d) = %d, not %d", c.n, got, c.want)
		}
	}
}

func TestBlocksIsTheNumberThatCutReturns(t *testing.T) {
	whole := make([]byte, maxBody)
	for size := 0; size <= maxBody; size += 1 + size/1000 {
		if got, want := record.Blocks(size), len(mustCut(t, whole[:size]))/blockLen; got != want {
			t.Errorf("Blocks(%d) = %d, not %d", size, got, want)
		}
	}
	for size := range maxBody + 1 {
		// One block for each room that is begun, and one for none.
		want := size/room + min(1, size%room)
		if size == 0 {
			want = 1
		}
		if got := record.Blocks(size); got != want {
			t.Fatalf("Blocks(%d) = %d, not %d", size, got, want)
		}
	}
}

func TestCutLeavesTheArgument(t *testing.T) {
	for _, size := range []int{0, 1, 57, 58, 59, 116, 117} {
		whole := mixed(300, 5)
		kept := slices.Clone(whole)
		b := mustCut(t, whole[:size])
		if !bytes.Equal(whole, kept) {
			t.Fatalf("Cut of %d bytes changed %x to %x", size, kept, whole)
		}
		if !bytes.Equal(b, blocksOf(slices.Clone(whole[:size]))) {
			t.Errorf("Cut of %d bytes depends on what is beyond them: %x", size, b)
		}
	}
}

func TestCutReturnsNewMemory(t *testing.T) {
	for _, size := range []int{0, 1, 58, 59, 200} {
		body := mixed(size, 6)
		want := blocksOf(body)
		one, other := mustCut(t, body), mustCut(t, body)
		for i := range one {
			one[i] = 0xee
		}
		_ = append(one, "zzzz"...)
		if !bytes.Equal(other, want) || !bytes.Equal(body, mixed(size, 6)) || !bytes.Equal(mustCut(t, body), want) {
			t.Errorf("%d bytes: writing to a result changed another one, or the body", size)
		}
		for i := range body {
			body[i] = 'y'
		}
		if !bytes.Equal(other, want) {
			t.Errorf("%d bytes: the blocks changed with the body", size)
		}
	}
}

func TestNilIsLikeEmpty(t *testing.T) {
	if of, empty := mustCut(t, nil), mustCut(t, []byte{}); !bytes.Equal(of, empty) || len(of) != blockLen {
		t.Errorf("Cut: %x for nil, %x for no bytes", of, empty)
	}
	mustRead(t, nil, nil, 0)
	mustRead(t, []byte{}, nil, 0)
}

func TestCallsDoNotDependOnEarlierOnes(t *testing.T) {
	broken := append(blocksOf([]byte("ab")), blocksOf(mixed(200, 7))[:100]...)
	for _, body := range samples() {
		b := mustCut(t, body)
		mustRead(t, b, [][]byte{body}, len(b)/blockLen)
		record.Cut(make([]byte, maxBody+1))
		mustRead(t, broken, [][]byte{[]byte("ab")}, 1)
		record.Blocks(-1)
		if !bytes.Equal(mustCut(t, body), b) {
			t.Errorf("%d bytes have other blocks the second time", len(body))
		}
		mustRead(t, b, [][]byte{body}, len(b)/blockLen)
	}
}
