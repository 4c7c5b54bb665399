package seal_test

import (
	"bytes"
	"slices"
	"strings"
	"sync"
	"testing"

	"interregnum/seal"
)

// bitwise is the checksum as the document defines it, bit by bit, without a table.
func bitwise(b []byte) uint32 {
	sum := uint32(0xb704ce)
	for _, x := range b {
		sum ^= uint32(x) << 16
		for range 8 {
			sum <<= 1
			if sum&0x1000000 != 0 {
				sum ^= 0x1864cfb
			}
		}
	}
	return sum
}

// mixed returns size bytes without a pattern, the same ones for the same arguments.
func mixed(size int, seed uint32) []byte {
	b := make([]byte, size)
	for i := range b {
		seed = seed*1664525 + 1013904223
		b[i] = byte(seed >> 24)
	}
	return b
}

// samples are byte sequences to seal: none, few, equal and mixed ones.
func samples() [][]byte {
	list := [][]byte{nil, {}, {0}, {255}, {0, 0, 0}, {1, 2, 3}, {0xb7, 0x04, 0xce}, []byte("123456789"), []byte("gr\u00fc\u00df"),
		bytes.Repeat([]byte{0}, 64), bytes.Repeat([]byte{255}, 64)}
	for size := 1; size <= 70; size++ {
		list = append(list, mixed(size, uint32(size)))
	}
	return append(list, mixed(1000, 1), mixed(65537, 2))
}

// invert returns b with the bits inverted that pattern names: its highest of 24 bits stands for the bit at the offset start.
func invert(b []byte, start int, pattern uint32) []byte {
	turned := slices.Clone(b)
	for i := range 24 {
		if pattern>>(23-i)&1 == 1 {
			turned[(start+i)/8] ^= 0x80 >> ((start + i) % 8)
		}
	}
	return turned
}

func mustStayShut(t *testing.T, b []byte) {
	t.Helper()
	if in, ok := seal.Open(b); in != nil || ok {
		t.Fatalf("Open(%x) = %x, %t", b, in, ok)
	}
}

// This test stands before all others of this file, so that the table is created while several ask for it.
func TestChecksumsAreComputedAtTheSameTime(t *testing.T) {
	var group sync.WaitGroup
	sums := make([]uint32, 16)
	start := make(chan int)
	for i := range sums {
		group.Go(func() {
			<-start
			sums[i] = seal.Of([]byte("123456789"))
		})
	}
	close(start)
	group.Wait()
	for i, sum := range sums {
		if sum != 0x21cf02 {
			t.Errorf("call %d: %x", i, sum)
		}
	}
}

func TestSizeIsTheNumberOfBytesOfAChecksum(t *testing.T) {
	if seal.Size != 3 {
		t.Errorf("Size is %d", seal.Size)
	}
	for _, b := range samples() {
		if sealed := seal.Put(b); len(sealed) != len(b)+seal.Size {
			t.Errorf("%d bytes, sealed, are %d", len(b), len(sealed))
		}
	}
}

func TestOfKnownBytes(t *testing.T) {
	for _, c := range []struct {
		b    string
		want uint32
	}{
		{"", 0xb704ce},
		{"123456789", 0x21cf02},
		{"123456789\x21\xcf\x02", 0},
		{"\xb7\x04\xce", 0},
		{"\xb7\x04\xce\x00", 0},
		{"\xb7\x04\xce\x01", 0x864cfb},
	} {
		if got := seal.Of([]byte(c.b)); got != c.want {
			t.Errorf("Of(%q) = %06x, not %06x", c.b, got, c.want)
		}
	}
}

func TestOfIsTheChecksumBitByBit(t *testing.T) {
	list := samples()
	for first := range 256 {
		list = append(list, []byte{byte(first)})
		for second := range 256 {
			list = append(list, []byte{byte(first), byte(second)})
		}
	}
	for _, b := range list {
		if got, want := seal.Of(b), bitwise(b); got != want {
			t.Fatalf("Of %d bytes %.20x: %06x, not %06x", len(b), b, got, want)
		}
	}
}

func TestOfHas24Bits(t *testing.T) {
	for _, b := range samples() {
		if sum := seal.Of(b); sum > 0xffffff {
			t.Errorf("Of %d bytes: %x", len(b), sum)
		}
	}
}

func TestPutAppendsTheChecksum(t *testing.T) {
	for _, c := range []struct{ b, want string }{
		{"", "\xb7\x04\xce"},
		{"123456789", "123456789\x21\xcf\x02"},
		{"123456789\x21\xcf\x02", "123456789\x21\xcf\x02\x00\x00\x00"},
	} {
		if got := seal.Put([]byte(c.b)); string(got) != c.want {
			t.Errorf("Put(%q) = %q, not %q", c.b, got, c.want)
		}
	}
	for _, b := range samples() {
		sum := bitwise(b)
		want := slices.Concat(b, []byte{byte(sum >> 16), byte(sum >> 8), byte(sum)})
		if got := seal.Put(b); !bytes.Equal(got, want) {
			t.Errorf("Put of %d bytes ends with %x, not %x", len(b), got[len(got)-3:], want[len(b):])
		}
	}
}

func TestOpenReturnsWhatIsSealed(t *testing.T) {
	for _, b := range samples() {
		if in, ok := seal.Open(seal.Put(b)); !bytes.Equal(in, b) || !ok {
			t.Errorf("Open of %d bytes, sealed: %d bytes, %t", len(b), len(in), ok)
		}
		twice, ok := seal.Open(seal.Put(seal.Put(b)))
		if !bytes.Equal(twice, seal.Put(b)) || !ok {
			t.Errorf("Open of %d bytes, sealed twice: %d bytes, %t", len(b), len(twice), ok)
		}
	}
}

func TestOpenOfOtherBytes(t *testing.T) {
	for _, b := range []string{"", "\x00", "\x00\x00", "\xb7\x04", "\x01\x02", "\x00\x00\x00", "\xce\x04\xb7", "\xb7\x04\xcf",
		"123456789", "123456789\x02\xcf\x21", "123456789\x21\xcf\x03", "123456788\x21\xcf\x02", "123456789\x21\xcf", "23456789\x21\xcf\x02",
		"\x21\xcf\x02123456789", "123456789\x21\xcf\x02\x01", "0123456789\x21\xcf\x02", "123456789\x00\x21\xcf\x02", strings.Repeat("\xff", 64)} {
		mustStayShut(t, []byte(b))
	}
}

func TestFewerBytesThanAChecksumAreNotSealed(t *testing.T) {
	mustStayShut(t, nil)
	for first := range 256 {
		mustStayShut(t, []byte{byte(first)})
		for second := range 256 {
			mustStayShut(t, []byte{byte(first), byte(second)})
		}
	}
}

func TestCutOffBytesAreNotSealed(t *testing.T) {
	sealed := seal.Put([]byte("123456789"))
	for size := range sealed {
		mustStayShut(t, sealed[:size])
	}
}

func TestOneChecksumOnlyOpens(t *testing.T) {
	for _, b := range []string{"", "123456789"} {
		opened := 0
		sealed := append([]byte(b), 0, 0, 0)
		for sum := range 1 << 24 {
			sealed[len(b)], sealed[len(b)+1], sealed[len(b)+2] = byte(sum>>16), byte(sum>>8), byte(sum)
			if in, ok := seal.Open(sealed); ok {
				opened++
				if string(in) != b || uint32(sum) != bitwise([]byte(b)) {
					t.Fatalf("Open(%x) = %x, %t", sealed, in, ok)
				}
			}
		}
		if opened != 1 {
			t.Errorf("%q opens with %d checksums", b, opened)
		}
	}
}

func TestAnyInvertedBitsWithin24AreDetected(t *testing.T) {
	sealed := seal.Put([]byte{0x12, 0x00, 0xff})
	turned := make([]byte, len(sealed))
	for _, start := range []int{0, 12, 21, 24} {
		for pattern := uint32(1); pattern < 1<<24; pattern++ {
			copy(turned, sealed)
			// The 24 bits spread over four bytes, if they do not begin with a byte.
			word := uint64(pattern) << (8 - start%8)
			for i := range 4 {
				if at := start/8 + i; at < len(turned) {
					turned[at] ^= byte(word >> (24 - 8*i))
				}
			}
			if in, ok := seal.Open(turned); in != nil || ok {
				t.Fatalf("%06x inverted at bit %d: %x, %t", pattern, start, in, ok)
			}
		}
	}
}

func TestInvertedBitsAreDetectedAnywhere(t *testing.T) {
	for _, size := range []int{0, 1, 2, 3, 9, 61} {
		sealed := seal.Put(mixed(size, 7))
		for start := range 8*len(sealed) - 23 {
			for first := range 24 {
				mustStayShut(t, invert(sealed, start, 1<<first))
				for second := range first {
					mustStayShut(t, invert(sealed, start, 1<<first|1<<second))
				}
			}
			for seed := range uint32(200) {
				p := mixed(3, seed+uint32(start)<<8)
				if pattern := uint32(p[0])<<16 | uint32(p[1])<<8 | uint32(p[2]); pattern != 0 {
					mustStayShut(t, invert(sealed, start, pattern))
				}
			}
			mustStayShut(t, invert(sealed, start, 0xffffff))
		}
	}
}

// Zero bytes after sealed bytes are beyond the promise too: the checksum of sealed bytes is 0, and stays so.
func TestZeroBytesAfterSealedBytesAreNotDetected(t *testing.T) {
	longer := seal.Put([]byte("123456789"))
	for range 5 {
		longer = append(longer, 0)
		if in, ok := seal.Open(longer); !bytes.Equal(in, longer[:len(longer)-3]) || !ok {
			t.Errorf("Open(%x) = %x, %t", longer, in, ok)
		}
	}
}

// 25 bits are beyond the promise: the polynomial itself is added unseen, at any place.
func TestThe25BitsOfThePolynomialAreNotDetected(t *testing.T) {
	const polynomial = 0x1864cfb
	sealed := seal.Put([]byte("123456789"))
	for start := range 8*len(sealed) - 24 {
		turned := invert(invert(sealed, start, polynomial>>1), start+1, polynomial&1)
		if in, ok := seal.Open(turned); !bytes.Equal(in, turned[:9]) || !ok {
			t.Errorf("at bit %d: Open(%x) = %x, %t", start, turned, in, ok)
		}
	}
}

func TestTheChecksumOfAnExclusiveOr(t *testing.T) {
	for size := range 300 {
		for seed := range uint32(5) {
			a, b := mixed(size, seed), mixed(size, seed+1000)
			both := make([]byte, size)
			for i := range both {
				both[i] = a[i] ^ b[i]
			}
			want := seal.Of(a) ^ seal.Of(b) ^ seal.Of(make([]byte, size))
			if got := seal.Of(both); got != want {
				t.Errorf("of %x and %x: %06x, not %06x", a, b, got, want)
			}
		}
	}
}

func TestArgumentsStayAsTheyAre(t *testing.T) {
	whole := bytes.Repeat([]byte{7}, 32)
	seal.Of(whole[:4])
	sealed := seal.Put(whole[:4])
	if !bytes.Equal(whole, bytes.Repeat([]byte{7}, 32)) {
		t.Errorf("the memory of the bytes to seal became %v", whole)
	}
	want := slices.Clone(sealed)
	seal.Open(sealed)
	if !bytes.Equal(sealed, want) {
		t.Errorf("the sealed bytes became %v", sealed)
	}
}

func TestResultsShareNoMemory(t *testing.T) {
	whole := append(make([]byte, 0, 32), "123456789"...)
	sealed := seal.Put(whole)
	other := seal.Put(whole)
	in, _ := seal.Open(sealed)
	whole[0] = 'x'
	if string(sealed) != "123456789\x21\xcf\x02" {
		t.Errorf("the sealed bytes became %q with the argument", sealed)
	}
	sealed[1] = 'x'
	if string(in) != "123456789" || string(other) != "123456789\x21\xcf\x02" || string(whole) != "x23456789" {
		t.Errorf("%q, %q and %q changed with the sealed bytes", in, other, whole)
	}
	in = append(in, "yyy"...)
	in[2] = 'y'
	if string(sealed) != "1x3456789\x21\xcf\x02" {
		t.Errorf("the sealed bytes became %q with what was opened", sealed)
	}
}

func TestMemoryBeyondTheLengthIsNotRead(t *testing.T) {
	whole := seal.Put([]byte("123456789"))
	if sum := seal.Of(whole[:0]); sum != 0xb704ce {
		t.Errorf("Of none of the bytes: %06x", sum)
	}
	if sum := seal.Of(whole[:9]); sum != 0x21cf02 {
		t.Errorf("Of nine of the bytes: %06x", sum)
	}
	if again := seal.Put(whole[:9]); !bytes.Equal(again, whole) {
		t.Errorf("Put of nine of the bytes: %x", again)
	}
	mustStayShut(t, whole[:11])
	mustStayShut(t, whole[:0])
}

func TestNilIsLikeEmpty(t *testing.T) {
	if of, empty := seal.Of(nil), seal.Of([]byte{}); of != empty {
		t.Errorf("Of: %06x for nil, %06x for no bytes", of, empty)
	}
	if of, empty := seal.Put(nil), seal.Put([]byte{}); !bytes.Equal(of, empty) {
		t.Errorf("Put: %x for nil, %x for no bytes", of, empty)
	}
	mustStayShut(t, nil)
	mustStayShut(t, []byte{})
}

func TestCallsDoNotDependOnEarlierOnes(t *testing.T) {
	for _, b := range samples() {
		sum, sealed := seal.Of(b), seal.Put(b)
		seal.Open([]byte{1, 2})
		seal.Of(mixed(100, 3))
		in, ok := seal.Open(sealed)
		if seal.Of(b) != sum || !bytes.Equal(seal.Put(b), sealed) || !bytes.Equal(in, b) || !ok {
			t.Errorf("%d bytes have another checksum the second time", len(b))
		}
	}
}
