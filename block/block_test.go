package block_test

import (
	"bytes"
	"math"
	"math/rand"
	"slices"
	"testing"

	"interregnum/api"
	"interregnum/block"
)

func TestExamples(t *testing.T) {
	s := block.New()
	s.Arm(0, 2)
	mustWrite(t, s, 3, filled(1), api.ErrLost)
	mustRead(t, s, 0, nil, api.ErrLost)
	s.Power()
	b, err := s.Read(3)
	if err != api.OK || !bytes.Equal(b, append([]byte{1, 1}, make([]byte, 62)...)) {
		t.Errorf("block 3 is %v, error %d", b, err)
	}
	mustWrite(t, s, 3, filled(1)[:63], api.ErrArg)
}

func TestNewAndZeroStores(t *testing.T) {
	var zero block.Store
	for _, s := range []*block.Store{block.New(), &zero, new(block.Store), {}} {
		mustBe(t, s, make([]byte, blocks*blockLen), false, 0)
		for i := range blocks {
			mustRead(t, s, i, make([]byte, blockLen), api.OK)
		}
		mustNotBeArmed(t, s)
		mustBe(t, s, make([]byte, blocks*blockLen), false, 3*blocks)
	}
}

func TestBlocksAreReadAsTheyWereWritten(t *testing.T) {
	s, all, writes := written(t)
	mustBe(t, s, all, false, writes)
	for i := range blocks {
		mustRead(t, s, i, all[i*blockLen:(i+1)*blockLen], api.OK)
	}
	for _, i := range []int{0, 1023, 512, 0, 511, 1, 1, 1022} {
		b := mixed(blockLen, uint32(100+i))
		mustWrite(t, s, i, b, api.OK)
		copy(all[i*blockLen:], b)
		mustRead(t, s, i, b, api.OK)
		writes++
		mustBe(t, s, all, false, writes)
	}
}

func TestZeroBytesAreWritten(t *testing.T) {
	s, all, writes := written(t)
	mustWrite(t, s, 8, make([]byte, blockLen), api.OK)
	clear(all[8*blockLen : 9*blockLen])
	mustRead(t, s, 8, make([]byte, blockLen), api.OK)
	mustBe(t, s, all, false, writes+1)
}

func TestWriteAffectsNoOtherBlock(t *testing.T) {
	s := block.New()
	for i := range blocks {
		mustWrite(t, s, i, filled(0xff), api.OK)
		all := make([]byte, blocks*blockLen)
		copy(all[i*blockLen:], filled(0xff))
		mustBe(t, s, all, false, 2*i+1)
		mustWrite(t, s, i, filled(0), api.OK)
	}
}

func TestThereAreNoBlocksBeyond(t *testing.T) {
	s, all, writes := written(t)
	for _, i := range beyond() {
		mustWrite(t, s, i, filled(1), api.ErrArg)
		mustRead(t, s, i, nil, api.ErrArg)
	}
	mustBe(t, s, all, false, writes)
	mustWrite(t, s, 0, filled(2), api.OK)
	mustWrite(t, s, blocks-1, filled(3), api.OK)
	mustRead(t, s, 0, filled(2), api.OK)
	mustRead(t, s, blocks-1, filled(3), api.OK)
}

func TestBlocksHaveOneLength(t *testing.T) {
	s, all, writes := written(t)
	for _, size := range wrongSizes() {
		for _, i := range []int{0, 5, blocks - 1, -1, blocks} {
			mustWrite(t, s, i, mixed(size, 9), api.ErrArg)
		}
	}
	mustBe(t, s, all, false, writes)
}

func TestNilIsLikeEmpty(t *testing.T) {
	s, all, writes := written(t)
	mustWrite(t, s, 3, nil, api.ErrArg)
	mustWrite(t, s, 3, []byte{}, api.ErrArg)
	mustBe(t, s, all, false, writes)
	s.Arm(0, 5)
	mustWrite(t, s, 3, nil, api.ErrArg)
	mustWrite(t, s, 3, []byte{}, api.ErrArg)
	mustBe(t, s, all, false, writes)
}

func TestFirstBytesOfInterruptedWriteAreWritten(t *testing.T) {
	parts := map[int]int{math.MinInt: 0, -1 << 32: 0, -65: 0, -64: 0, -2: 0, -1: 0, 65: 64, 66: 64, 128: 64, 65536: 64, 1 << 32: 64, math.MaxInt: 64}
	for part := range blockLen + 1 {
		parts[part] = part
	}
	for part, size := range parts {
		for _, i := range []int{0, 1, 700, blocks - 1} {
			s, all, writes := written(t)
			s.Arm(0, part)
			b := mixed(blockLen, 77)
			mustWrite(t, s, i, b, api.ErrLost)
			copy(all[i*blockLen:], b[:size])
			mustBe(t, s, all, true, writes+1)
			s.Power()
			mustBe(t, s, all, false, writes+1)
			mustRead(t, s, i, all[i*blockLen:(i+1)*blockLen], api.OK)
		}
	}
}

func TestWritesBeforeAreWhole(t *testing.T) {
	for _, count := range []int{0, 1, 2, 3, 10, 63, 64, 65, 255, 256, 257, blocks - 1, blocks, blocks + 1, 3000} {
		s := block.New()
		all := make([]byte, blocks*blockLen)
		s.Arm(count, 10)
		for k := range count {
			i := k * 37 % blocks
			b := mixed(blockLen, uint32(k))
			mustWrite(t, s, i, b, api.OK)
			copy(all[i*blockLen:], b)
		}
		mustBe(t, s, all, false, count)
		mustWrite(t, s, 4, filled(5), api.ErrLost)
		copy(all[4*blockLen:], filled(5)[:10])
		mustBe(t, s, all, true, count+1)
	}
}

func TestGreatCountsDoNotEnd(t *testing.T) {
	for _, count := range []int{3 * blocks, 1 << 16, 1 << 31, 1 << 32, 1 << 62, math.MaxInt - 1, math.MaxInt} {
		s := block.New()
		s.Arm(count, 1)
		mustNotBeArmed(t, s)
		mustBe(t, s, make([]byte, blocks*blockLen), false, 3*blocks)
	}
}

func TestRejectedWritesDoNotCount(t *testing.T) {
	s := block.New()
	s.Arm(2, 0)
	for range 2 {
		for _, i := range beyond() {
			mustWrite(t, s, i, filled(1), api.ErrArg)
		}
		for _, size := range wrongSizes() {
			mustWrite(t, s, 0, mixed(size, 1), api.ErrArg)
		}
		mustWrite(t, s, 0, filled(1), api.OK)
	}
	mustWrite(t, s, -1, filled(1), api.ErrArg)
	if s.Writes() != 2 || s.Down() {
		t.Fatalf("%d writes, down %v", s.Writes(), s.Down())
	}
	mustWrite(t, s, 0, filled(2), api.ErrLost)
	for range 5 {
		mustWrite(t, s, 0, filled(2), api.ErrLost)
		mustWrite(t, s, -1, filled(2), api.ErrLost)
	}
	all := make([]byte, blocks*blockLen)
	copy(all, filled(1))
	mustBe(t, s, all, true, 3)
	s.Power()
	mustBe(t, s, all, false, 3)
}

func TestReportsDoNotCount(t *testing.T) {
	s := block.New()
	s.Arm(1, 0)
	for range 10 {
		mustRead(t, s, 0, make([]byte, blockLen), api.OK)
		mustRead(t, s, -1, nil, api.ErrArg)
		mustBe(t, s, make([]byte, blocks*blockLen), false, 0)
	}
	mustWrite(t, s, 0, filled(0), api.OK)
	mustWrite(t, s, 0, filled(1), api.ErrLost)
	mustBe(t, s, make([]byte, blocks*blockLen), true, 2)
}

func TestNothingIsReadOrWrittenWithoutPower(t *testing.T) {
	s, all, writes := written(t)
	s.Arm(0, 0)
	mustWrite(t, s, 9, filled(1), api.ErrLost)
	writes++
	// With another arming, too: no write begins while the power is off.
	for _, arm := range []func(){func() {}, func() { s.Arm(0, 64) }, func() { s.Arm(5, 64) }, func() { s.Arm(-1, 64) }} {
		arm()
		for _, i := range append(beyond(), 0, 1, 9, blocks-1) {
			mustRead(t, s, i, nil, api.ErrLost)
			for _, size := range append(wrongSizes(), blockLen) {
				mustWrite(t, s, i, make([]byte, size), api.ErrLost)
			}
		}
		mustBe(t, s, all, true, writes)
	}
	s.Power()
	mustBe(t, s, all, false, writes)
	mustNotBeArmed(t, s)
}

func TestArmReplaces(t *testing.T) {
	for _, before := range [][2]int{{0, 50}, {1, 50}, {7, 50}, {math.MaxInt, 50}, {-1, 50}, {math.MinInt, 50}} {
		for _, after := range [][2]int{{0, 3}, {1, 3}, {2, 64}, {2, -1}, {4, 0}, {9, 5}} {
			s := block.New()
			s.Arm(before[0], before[1])
			s.Arm(after[0], after[1])
			for range after[0] {
				mustWrite(t, s, 1, filled(1), api.OK)
			}
			mustWrite(t, s, 2, filled(2), api.ErrLost)
			s.Power()
			want := make([]byte, blockLen)
			copy(want, filled(2)[:max(after[1], 0)])
			mustRead(t, s, 2, want, api.OK)
		}
	}
}

func TestArmReplacesWhatIsLeftOfACount(t *testing.T) {
	s := block.New()
	s.Arm(3, 1)
	mustWrite(t, s, 0, filled(1), api.OK)
	mustWrite(t, s, 0, filled(1), api.OK)
	s.Arm(3, 1)
	for range 3 {
		mustWrite(t, s, 0, filled(1), api.OK)
	}
	mustWrite(t, s, 0, filled(1), api.ErrLost)
}

func TestNegativeCountsDisarm(t *testing.T) {
	for _, count := range []int{-1, -2, -blocks, -1 << 31, -1 << 32, math.MinInt, math.MinInt + 1} {
		s := block.New()
		s.Arm(count, 64)
		mustNotBeArmed(t, s)
		s.Arm(1, 64)
		mustWrite(t, s, 0, filled(0), api.OK)
		s.Arm(count, 0)
		mustNotBeArmed(t, s)
		mustBe(t, s, make([]byte, blocks*blockLen), false, 6*blocks+1)
	}
}

func TestArmLeavesPowerAndBytes(t *testing.T) {
	s, all, writes := written(t)
	for _, count := range []int{-1, 0, 1, math.MaxInt} {
		s.Arm(count, 64)
		mustBe(t, s, all, false, writes)
		mustRead(t, s, 0, all[:blockLen], api.OK)
	}
	s.Arm(0, 0)
	mustWrite(t, s, 0, filled(1), api.ErrLost)
	for _, count := range []int{-1, 0, 1, math.MaxInt} {
		s.Arm(count, 64)
		mustBe(t, s, all, true, writes+1)
		mustRead(t, s, 0, nil, api.ErrLost)
	}
}

func TestPowerDisarms(t *testing.T) {
	for _, count := range []int{0, 1, 5, 2 * blocks} {
		s, all, writes := written(t)
		s.Arm(count, 9)
		s.Power()
		mustBe(t, s, all, false, writes)
		mustNotBeArmed(t, s)
		mustBe(t, s, all, false, writes+3*blocks)
	}
}

func TestStoreIsNotArmedAfterInterruption(t *testing.T) {
	s, all, writes := written(t)
	s.Arm(0, 0)
	mustWrite(t, s, 0, filled(1), api.ErrLost)
	s.Power()
	mustNotBeArmed(t, s)
	mustBe(t, s, all, false, writes+1+3*blocks)
	s.Power()
	mustBe(t, s, all, false, writes+1+3*blocks)
}

func TestArgumentsStayAndAreNotKept(t *testing.T) {
	for _, count := range []int{-1, 0} {
		s := block.New()
		s.Arm(count, 40)
		whole := mixed(200, 3)
		b := whole[10 : 10+blockLen]
		s.Write(6, b)
		if !bytes.Equal(whole, mixed(200, 3)) {
			t.Fatalf("Write changed what was passed")
		}
		for i := range whole {
			whole[i] = 0xee
		}
		want := make([]byte, blocks*blockLen)
		copy(want[6*blockLen:7*blockLen], mixed(200, 3)[10:10+blockLen])
		if count == 0 {
			clear(want[6*blockLen+40 : 7*blockLen])
		}
		mustBe(t, s, want, count == 0, 1)
	}
}

func TestMemoryBeyondTheLengthIsNotRead(t *testing.T) {
	s := block.New()
	whole := mixed(200, 4)
	mustWrite(t, s, 2, whole[:63], api.ErrArg)
	mustWrite(t, s, 2, whole[:0], api.ErrArg)
	mustWrite(t, s, 2, whole[:64], api.OK)
	mustRead(t, s, 2, mixed(200, 4)[:64], api.OK)
	mustRead(t, s, 3, make([]byte, blockLen), api.OK)
}

func TestResultsAreNewMemory(t *testing.T) {
	s, all, writes := written(t)
	one, _ := s.Read(5)
	other, _ := s.Read(5)
	bytesOne, bytesOther := s.Bytes(), s.Bytes()
	for _, b := range [][]byte{one, bytesOne} {
		for i := range b {
			b[i] ^= 0xff
		}
		_ = append(b, "zzzz"...)
	}
	mustBe(t, s, all, false, writes)
	if !bytes.Equal(other, all[5*blockLen:6*blockLen]) || !bytes.Equal(bytesOther, all) {
		t.Error("writing to a result changed another one")
	}
	mustWrite(t, s, 5, filled(0), api.OK)
	if !bytes.Equal(other, all[5*blockLen:6*blockLen]) || !bytes.Equal(bytesOther, all) {
		t.Error("a write changed an earlier result")
	}
}

func TestBytesAreThereWithoutPower(t *testing.T) {
	s, all, writes := written(t)
	s.Arm(0, -1)
	mustWrite(t, s, 0, filled(1), api.ErrLost)
	mustBe(t, s, all, true, writes+1)
}

func TestNilStore(t *testing.T) {
	var s *block.Store
	for range 2 {
		for _, i := range append(beyond(), 0, 1, blocks-1) {
			mustRead(t, s, i, nil, api.ErrArg)
			for _, size := range append(wrongSizes(), blockLen) {
				mustWrite(t, s, i, make([]byte, size), api.ErrArg)
			}
		}
		mustWrite(t, s, 0, nil, api.ErrArg)
		mustBe(t, s, nil, false, 0)
		s.Arm(0, 2)
		s.Arm(-1, 2)
		s.Power()
	}
}

func TestStoresAreIndependent(t *testing.T) {
	one, other := block.New(), block.New()
	one.Arm(0, 3)
	mustWrite(t, other, 0, filled(1), api.OK)
	mustWrite(t, one, 0, filled(2), api.ErrLost)
	mustRead(t, other, 0, filled(1), api.OK)
	other.Power()
	mustRead(t, one, 0, nil, api.ErrLost)
	if other.Down() || !one.Down() || one.Writes() != 1 || other.Writes() != 1 {
		t.Error("one store changed the other one")
	}
	mustBe(t, block.New(), make([]byte, blocks*blockLen), false, 0)
}

// TestStoresAreAsTheDocumentSpecifies plays the same calls on a store and on a device as the document specifies it.
func TestStoresAreAsTheDocumentSpecifies(t *testing.T) {
	for seed := range int64(40) {
		r := rand.New(rand.NewSource(seed))
		s, d := block.New(), newDevice()
		for range 400 {
			playStep(t, r, s, d)
			if s.Down() != d.off || s.Writes() != d.writes {
				t.Fatalf("seed %d: down %v, %d writes, not %v, %d", seed, s.Down(), s.Writes(), d.off, d.writes)
			}
		}
		mustBe(t, s, d.bytes, d.off, d.writes)
	}
}

// playStep makes a call on both, which fails the test if they answer differently.
func playStep(t *testing.T, r *rand.Rand, s *block.Store, d *device) {
	t.Helper()
	i := r.Intn(8)
	switch r.Intn(10) {
	case 0:
		i = blocks - 4 + r.Intn(8)
	case 1:
		i = beyond()[r.Intn(len(beyond()))]
	}
	switch r.Intn(8) {
	case 0:
		writes, part := r.Intn(8)-2, r.Intn(80)-8
		s.Arm(writes, part)
		d.arm(writes, part)
	case 1:
		s.Power()
		d.power()
	case 2:
		b, err := d.read(i)
		mustRead(t, s, i, b, err)
	case 3:
		size := wrongSizes()[r.Intn(len(wrongSizes()))]
		b := mixed(size, r.Uint32())
		mustWrite(t, s, i, b, d.write(i, b))
	default:
		b := mixed(blockLen, r.Uint32())
		kept := slices.Clone(b)
		mustWrite(t, s, i, b, d.write(i, kept))
	}
}
