package seal

import (
	"bytes"
	"sync"
	"testing"
)

// forget makes the table as it is before the first checksum, now and when the test ends.
func forget(t *testing.T) {
	t.Helper()
	clean := func() {
		effects, effectsCreated = [256]uint32{}, sync.Once{}
	}
	clean()
	t.Cleanup(clean)
}

// shifted is the effect of a byte as the document defines it, shift by shift.
func shifted(x int) uint32 {
	sum := uint32(x) << 16
	for range 8 {
		sum <<= 1
		if sum&0x1000000 != 0 {
			sum ^= 0x1864cfb
		}
	}
	return sum
}

// calls are those that compute a checksum.
func calls() map[string]func() {
	return map[string]func(){
		"Of":             func() { Of([]byte("123456789")) },
		"Of of nothing":  func() { Of(nil) },
		"Put":            func() { Put([]byte("123456789")) },
		"Open of sealed": func() { Open([]byte("123456789\x21\xcf\x02")) },
		"Open of others": func() { Open([]byte("123456789\x21\xcf\x03")) },
	}
}

func mustHoldEachEffect(t *testing.T, table *[256]uint32) {
	t.Helper()
	for x, said := range table {
		if worked, want := effect(byte(x)), shifted(x); said != worked || said != want {
			t.Errorf("byte %d: the table says %06x, the function %06x, the document %06x", x, said, worked, want)
		}
	}
}

func TestTheTableSaysWhatTheFunctionSays(t *testing.T) {
	forget(t)
	Of(nil)
	mustHoldEachEffect(t, &effects)
}

func TestTheFirstChecksumCreatesTheTable(t *testing.T) {
	for name, call := range calls() {
		t.Run(name, func(t *testing.T) {
			forget(t)
			call()
			mustHoldEachEffect(t, &effects)
		})
	}
}

func TestNoTableWithoutAChecksum(t *testing.T) {
	forget(t)
	for _, b := range [][]byte{nil, {1}, {1, 2}} {
		Open(b)
	}
	if effects != [256]uint32{} {
		t.Error("bytes too few to be sealed created the table")
	}
}

func TestTheTableIsCreatedOnce(t *testing.T) {
	forget(t)
	Of(nil)
	effects[7]++
	changed := effects
	for name, call := range calls() {
		call()
		if effects != changed {
			t.Errorf("%s created the table again", name)
			effects = changed
		}
	}
}

func TestSeveralThatAskAtOnceGetOneTable(t *testing.T) {
	forget(t)
	var group sync.WaitGroup
	tables := make([][256]uint32, 16)
	start := make(chan int)
	for i := range tables {
		group.Go(func() {
			<-start
			Of([]byte("123456789"))
			tables[i] = effects
		})
	}
	close(start)
	group.Wait()
	for i := range tables {
		mustHoldEachEffect(t, &tables[i])
	}
}

// The table stands beside the answers: what it holds must not show in them.
func TestAnswersDoNotComeFromTheTable(t *testing.T) {
	forget(t)
	Of(nil)
	for x := range effects {
		effects[x] = 0xabcdef
	}
	for x := range 256 {
		b := []byte{byte(x)}
		want := shifted(x^0xb7) ^ 0x04ce00
		if got := Of(b); got != want {
			t.Errorf("Of(%v) = %06x, not %06x", b, got, want)
		}
		sealed := []byte{byte(x), byte(want >> 16), byte(want >> 8), byte(want)}
		if got := Put(b); !bytes.Equal(got, sealed) {
			t.Errorf("Put(%v) = %x, not %x", b, got, sealed)
		}
		if in, ok := Open(sealed); !bytes.Equal(in, b) || !ok {
			t.Errorf("Open(%x) = %v, %t", sealed, in, ok)
		}
	}
	if sum := Of([]byte("123456789")); sum != 0x21cf02 {
		t.Errorf("Of(\"123456789\") = %06x", sum)
	}
}
