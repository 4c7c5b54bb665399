package pack_test

import (
	"bytes"
	"cmp"
	"math"
	"slices"
	"strings"
	"testing"

	"interregnum/api"
	"interregnum/pack"
)

// numbers has the edges of every width, in ascending order.
func numbers() []uint64 {
	list := []uint64{0, 1, 2, 127, 128, 254, 255, 300, 0x0100ff, 0x8000000000000001}
	for shift := 8; shift < 64; shift += 8 {
		edge := uint64(1) << shift
		list = append(list, edge-1, edge, edge+1)
	}
	list = append(list, math.MaxInt64, 1<<63, math.MaxUint64-1, math.MaxUint64)
	slices.Sort(list)
	return slices.Compact(list)
}

// texts has strings around the lengths at which the width of the length changes.
func texts() []string {
	return []string{"", "a", "ab", "\x00", "\xff\xfe", "gr\u00fc\u00df", strings.Repeat("x", 255),
		strings.Repeat("y", 256), strings.Repeat("z", 65535), strings.Repeat("\x00", 65536)}
}

// surroundings are bytes that may stand before or after an encoding.
func surroundings() [][]byte {
	return [][]byte{nil, {}, {0}, {9}, {1, 0}, {8}, {255, 255, 255}, {2, 1, 44}}
}

func TestPutEncodes(t *testing.T) {
	for _, c := range []struct {
		b    string
		n    uint64
		want string
	}{
		{"", 0, "\x00"},
		{"", 1, "\x01\x01"},
		{"", 255, "\x01\xff"},
		{"", 256, "\x02\x01\x00"},
		{"", 300, "\x02\x01\x2c"},
		{"", 65535, "\x02\xff\xff"},
		{"", 65536, "\x03\x01\x00\x00"},
		{"", 0x0102030405060708, "\x08\x01\x02\x03\x04\x05\x06\x07\x08"},
		{"", 1 << 56, "\x08\x01\x00\x00\x00\x00\x00\x00\x00"},
		{"", 1<<56 - 1, "\x07\xff\xff\xff\xff\xff\xff\xff"},
		{"", math.MaxUint64, "\x08\xff\xff\xff\xff\xff\xff\xff\xff"},
		{"\x09", 300, "\x09\x02\x01\x2c"},
		{"\x00\x01", 0, "\x00\x01\x00"},
	} {
		if got := pack.Put([]byte(c.b), c.n); string(got) != c.want {
			t.Errorf("Put(%q, %d) = %q, not %q", c.b, c.n, got, c.want)
		}
	}
}

func TestPutUsesAsFewBytesAsPossible(t *testing.T) {
	for size := 1; size <= 8; size++ {
		least, greatest := uint64(1)<<(8*(size-1)), uint64(math.MaxUint64)>>(64-8*size)
		for _, n := range []uint64{least, greatest} {
			if b := pack.Put(nil, n); len(b) != 1+size || int(b[0]) != size || b[1] == 0 {
				t.Errorf("Put of %d: %v, not %d bytes after the first one", n, b, size)
			}
		}
	}
}

type taken struct {
	n    uint64
	next int
	err  api.Errno
}

func TestTakeDecodes(t *testing.T) {
	const most = "\x08\xff\xff\xff\xff\xff\xff\xff\xff"
	for _, c := range []struct {
		b    string
		at   int
		want taken
	}{
		{"\x00", 0, taken{0, 1, api.OK}},
		{"\x02\x01\x2c", 0, taken{300, 3, api.OK}},
		{"\x02\x01\x2c\x07", 0, taken{300, 3, api.OK}},
		{"\x02\x01\x2c", 1, taken{44, 3, api.OK}},
		{"\x09\x02\x01\x2c\x00", 1, taken{300, 4, api.OK}},
		{"\x09\x00", 1, taken{0, 2, api.OK}},
		{"\x02\x01\x00", 0, taken{256, 3, api.OK}},
		{"\x08\x01\x02\x03\x04\x05\x06\x07\x08", 0, taken{0x0102030405060708, 9, api.OK}},
		{most, 0, taken{math.MaxUint64, 9, api.OK}},
		{"", -1, taken{0, 0, api.ErrArg}},
		{"", 1, taken{0, 0, api.ErrArg}},
		{"\x00", -1, taken{0, 0, api.ErrArg}},
		{"\x00", 2, taken{0, 0, api.ErrArg}},
		{"\x00", math.MinInt, taken{0, 0, api.ErrArg}},
		{"\x00", math.MaxInt, taken{0, 0, api.ErrArg}},
		{"", 0, taken{0, 0, api.ErrShort}},
		{"\x00", 1, taken{0, 0, api.ErrShort}},
		{"\x09", 0, taken{0, 0, api.ErrForm}},
		{"\xff", 0, taken{0, 0, api.ErrForm}},
		{"\x09\x01\x01\x01\x01\x01\x01\x01\x01\x01", 0, taken{0, 0, api.ErrForm}},
		{"\x01", 0, taken{0, 0, api.ErrShort}},
		{"\x02\x01", 0, taken{0, 0, api.ErrShort}},
		{most[:8], 0, taken{0, 0, api.ErrShort}},
		{"\x02\x00", 0, taken{0, 0, api.ErrShort}},
		{"\x01\x00", 0, taken{0, 0, api.ErrForm}},
		{"\x02\x00\x01", 0, taken{0, 0, api.ErrForm}},
		{"\x08\x00\xff\xff\xff\xff\xff\xff\xff", 0, taken{0, 0, api.ErrForm}},
	} {
		n, next, err := pack.Take([]byte(c.b), c.at)
		if got := (taken{n, next, err}); got != c.want {
			t.Errorf("Take(%q, %d) = %v, not %v", c.b, c.at, got, c.want)
		}
	}
}

func TestPutTextEncodes(t *testing.T) {
	long := strings.Repeat("k", 300)
	for _, c := range []struct{ b, s, want string }{
		{"", "", "\x00"},
		{"", "ab", "\x01\x02ab"},
		{"\x09", "ab", "\x09\x01\x02ab"},
		{"\x09", "", "\x09\x00"},
		{"", "\x00\xff", "\x01\x02\x00\xff"},
		{"", "\u00e9", "\x01\x02\xc3\xa9"},
		{"", long[:255], "\x01\xff" + long[:255]},
		{"", long[:256], "\x02\x01\x00" + long[:256]},
		{"", long, "\x02\x01\x2c" + long},
	} {
		if got := pack.PutText([]byte(c.b), c.s); string(got) != c.want {
			t.Errorf("PutText(%q, %q) = %q, not %q", c.b, c.s, got, c.want)
		}
	}
}

type takenText struct {
	s    string
	next int
	err  api.Errno
}

func TestTakeTextDecodes(t *testing.T) {
	const huge = "\x08\xff\xff\xff\xff\xff\xff\xff\xff"
	const greatestInt = "\x08\x7f\xff\xff\xff\xff\xff\xff\xff"
	for _, c := range []struct {
		b        string
		at, most int
		want     takenText
	}{
		{"\x01\x02abc", 0, 2, takenText{"ab", 4, api.OK}},
		{"\x01\x02abc", 0, 9, takenText{"ab", 4, api.OK}},
		{"\x01\x02ab", 0, math.MaxInt, takenText{"ab", 4, api.OK}},
		{"\x07\x01\x02abc", 1, 2, takenText{"ab", 5, api.OK}},
		{"\x01\x02\x00\xff", 0, 2, takenText{"\x00\xff", 4, api.OK}},
		{"\x00", 0, 0, takenText{"", 1, api.OK}},
		{"\x00\x41", 0, 5, takenText{"", 1, api.OK}},
		{"\x01\x02ab", 0, -1, takenText{"", 0, api.ErrArg}},
		{"\x01\x02ab", 0, math.MinInt, takenText{"", 0, api.ErrArg}},
		{"", 0, -1, takenText{"", 0, api.ErrArg}},
		{"\x09", 0, -1, takenText{"", 0, api.ErrArg}},
		{"\x01\x02ab", -1, 2, takenText{"", 0, api.ErrArg}},
		{"\x01\x02ab", 5, 2, takenText{"", 0, api.ErrArg}},
		{"\x01\x02ab", math.MaxInt, 2, takenText{"", 0, api.ErrArg}},
		{"", 0, 2, takenText{"", 0, api.ErrShort}},
		{"\x01\x02ab", 4, 2, takenText{"", 0, api.ErrShort}},
		{"\x02\x01", 0, 2, takenText{"", 0, api.ErrShort}},
		{"\x09ab", 0, 2, takenText{"", 0, api.ErrForm}},
		{"\x01\x00ab", 0, 2, takenText{"", 0, api.ErrForm}},
		{"\x02\x00\x02ab", 0, 2, takenText{"", 0, api.ErrForm}},
		{"\x01\x02abc", 0, 1, takenText{"", 0, api.ErrLong}},
		{"\x01\x02abc", 0, 0, takenText{"", 0, api.ErrLong}},
		{"\x01\x02", 0, 1, takenText{"", 0, api.ErrLong}},
		{huge, 0, math.MaxInt, takenText{"", 0, api.ErrLong}},
		{"\x01\x02a", 0, 9, takenText{"", 0, api.ErrShort}},
		{"\x01\x02a", 0, 2, takenText{"", 0, api.ErrShort}},
		{"\x01\x02", 0, 2, takenText{"", 0, api.ErrShort}},
		{greatestInt + "ab", 0, math.MaxInt, takenText{"", 0, api.ErrShort}},
	} {
		s, next, err := pack.TakeText([]byte(c.b), c.at, c.most)
		if got := (takenText{s, next, err}); got != c.want {
			t.Errorf("TakeText(%q, %d, %d) = %v, not %v", c.b, c.at, c.most, got, c.want)
		}
	}
}

func TestNumbersAreDecodedAsTheyWere(t *testing.T) {
	for _, n := range numbers() {
		for _, before := range surroundings() {
			for _, after := range surroundings() {
				b := pack.Put(before, n)
				end := len(b)
				b = slices.Concat(b, after)
				got, next, err := pack.Take(b, len(before))
				if got != n || next != end || err != api.OK {
					t.Errorf("%d after %v, before %v: Take = %d, %d, %d", n, before, after, got, next, err)
				}
			}
		}
	}
}

func TestTextsAreDecodedAsTheyWere(t *testing.T) {
	for _, s := range texts() {
		for _, before := range surroundings() {
			for _, after := range surroundings() {
				b := pack.PutText(before, s)
				end := len(b)
				b = slices.Concat(b, after)
				got, next, err := pack.TakeText(b, len(before), len(s))
				if got != s || next != end || err != api.OK {
					t.Errorf("%d bytes after %v, before %v: TakeText = %d bytes, %d, %d", len(s), before, after, len(got), next, err)
				}
			}
		}
	}
}

func TestSequencesAreDecodedAsTheyWere(t *testing.T) {
	var b []byte
	for i, s := range texts() {
		b = pack.PutText(pack.Put(b, uint64(i)<<(6*i)), s)
	}
	at := 0
	for i, s := range texts() {
		n, next, err := pack.Take(b, at)
		if n != uint64(i)<<(6*i) || err != api.OK {
			t.Fatalf("number %d: %d, %d", i, n, err)
		}
		got, end, err := pack.TakeText(b, next, len(s))
		if got != s || err != api.OK {
			t.Fatalf("text %d: %d bytes, %d", i, len(got), err)
		}
		at = end
	}
	if at != len(b) {
		t.Errorf("%d of %d bytes are read", at, len(b))
	}
}

func TestCutOffNumbersAreShort(t *testing.T) {
	for _, n := range numbers() {
		whole := pack.Put(nil, n)
		for size := range whole {
			if got, next, err := pack.Take(whole[:size], 0); got != 0 || next != 0 || err != api.ErrShort {
				t.Errorf("Take(%v, 0) = %d, %d, %d", whole[:size], got, next, err)
			}
		}
	}
}

// shortBytes calls visit with all byte sequences of up to three bytes of which the first one is at most 10 or is 255.
func shortBytes(visit func(b []byte)) {
	visit(nil)
	for _, first := range []byte{0, 1, 2, 3, 4, 5, 6, 7, 8, 9, 10, 255} {
		visit([]byte{first})
		for second := range 256 {
			visit([]byte{first, byte(second)})
			for third := range 256 {
				visit([]byte{first, byte(second), byte(third)})
			}
		}
	}
}

func TestNoOtherBytesAreDecodedAsANumber(t *testing.T) {
	shortBytes(func(b []byte) {
		n, next, err := pack.Take(b, 0)
		if err != api.OK {
			if n != 0 || next != 0 {
				t.Fatalf("Take(%v, 0) = %d, %d, %d", b, n, next, err)
			}
			return
		}
		if want := pack.Put(nil, n); !bytes.Equal(b[:next], want) {
			t.Fatalf("%v is decoded as %d, whose encoding is %v", b[:next], n, want)
		}
	})
	for size := 2; size <= 8; size++ {
		padded := make([]byte, 1+size)
		padded[0], padded[size] = byte(size), 1
		if n, next, err := pack.Take(padded, 0); n != 0 || next != 0 || err != api.ErrForm {
			t.Errorf("Take(%v, 0) = %d, %d, %d", padded, n, next, err)
		}
	}
}

func TestNoOtherBytesAreDecodedAsAText(t *testing.T) {
	shortBytes(func(b []byte) {
		s, next, err := pack.TakeText(b, 0, 3)
		if err != api.OK {
			if s != "" || next != 0 {
				t.Fatalf("TakeText(%v, 0, 3) = %q, %d, %d", b, s, next, err)
			}
			return
		}
		if want := pack.PutText(nil, s); !bytes.Equal(b[:next], want) {
			t.Fatalf("%v is decoded as %q, whose encoding is %v", b[:next], s, want)
		}
	})
}

func TestEncodingsAreOrderedLikeNumbers(t *testing.T) {
	for _, a := range numbers() {
		for _, b := range numbers() {
			if got, want := bytes.Compare(pack.Put(nil, a), pack.Put(nil, b)), cmp.Compare(a, b); got != want {
				t.Errorf("the encodings of %d and %d compare as %d, not %d", a, b, got, want)
			}
		}
	}
}

// puts are the two calls that append, each with a short and a long encoding.
func puts() map[string]func(b []byte) []byte {
	return map[string]func(b []byte) []byte{
		"number 0":   func(b []byte) []byte { return pack.Put(b, 0) },
		"number max": func(b []byte) []byte { return pack.Put(b, math.MaxUint64) },
		"no text":    func(b []byte) []byte { return pack.PutText(b, "") },
		"text":       func(b []byte) []byte { return pack.PutText(b, "some text") },
	}
}

func TestPuttingLeavesTheArgumentAndTheMemoryBeyondIt(t *testing.T) {
	for name, put := range puts() {
		whole := bytes.Repeat([]byte{7}, 32)
		got := put(whole[:4])
		if !bytes.Equal(whole, bytes.Repeat([]byte{7}, 32)) {
			t.Errorf("%s: the memory of the argument became %v", name, whole)
		}
		want := slices.Clone(got)
		for i := range whole {
			whole[i] = 8
		}
		if !bytes.Equal(got, want) {
			t.Errorf("%s: the result shares memory with the argument", name)
		}
	}
}

func TestResultsShareNoMemory(t *testing.T) {
	for name, put := range puts() {
		prefix := pack.Put(nil, 1<<40)
		first := put(prefix)
		want := slices.Clone(first)
		for _, b := range [][]byte{put(prefix), pack.Put(first, 5), prefix} {
			for i := range b {
				b[i] = 0xee
			}
		}
		if !bytes.Equal(first, want) {
			t.Errorf("%s: a result changed with another one", name)
		}
	}
}

func TestTakingLeavesTheArgument(t *testing.T) {
	b := []byte{2, 1, 44, 1, 2, 'a', 'b', 9}
	want := slices.Clone(b)
	pack.Take(b, 0)
	s, _, _ := pack.TakeText(b, 3, 2)
	if !bytes.Equal(b, want) {
		t.Errorf("the argument became %v", b)
	}
	b[5] = 'x'
	if s != "ab" {
		t.Errorf("the text became %q with the bytes from which it was read", s)
	}
}

func TestMemoryBeyondTheLengthIsNotRead(t *testing.T) {
	whole := []byte{1, 2, 'a', 'b', 'c'}
	if n, next, err := pack.Take(whole[:1], 0); n != 0 || next != 0 || err != api.ErrShort {
		t.Errorf("Take of one of the bytes: %d, %d, %d", n, next, err)
	}
	if n, next, err := pack.Take(whole[:1], 2); n != 0 || next != 0 || err != api.ErrArg {
		t.Errorf("Take beyond the length: %d, %d, %d", n, next, err)
	}
	if s, next, err := pack.TakeText(whole[:3], 0, 5); s != "" || next != 0 || err != api.ErrShort {
		t.Errorf("TakeText of three of the bytes: %q, %d, %d", s, next, err)
	}
}

func TestNilIsLikeEmpty(t *testing.T) {
	for name, put := range puts() {
		if of, empty := put(nil), put([]byte{}); !bytes.Equal(of, empty) {
			t.Errorf("%s: %v after nil, %v after no bytes", name, of, empty)
		}
	}
	for at := -1; at <= 1; at++ {
		n, next, err := pack.Take(nil, at)
		m, end, other := pack.Take([]byte{}, at)
		if n != m || next != end || err != other {
			t.Errorf("Take of nil and of no bytes at %d: %d, %d, %d and %d, %d, %d", at, n, next, err, m, end, other)
		}
		s, next, err := pack.TakeText(nil, at, 3)
		r, end, other := pack.TakeText([]byte{}, at, 3)
		if s != r || next != end || err != other {
			t.Errorf("TakeText of nil and of no bytes at %d: %q, %d, %d and %q, %d, %d", at, s, next, err, r, end, other)
		}
	}
}

func TestCallsDoNotDependOnEarlierOnes(t *testing.T) {
	b := pack.PutText(pack.Put(nil, 300), "ab")
	pack.Take([]byte{9}, 0)
	pack.TakeText(b, 3, 1)
	if again := pack.PutText(pack.Put(nil, 300), "ab"); !bytes.Equal(again, b) {
		t.Errorf("the second time: %v, not %v", again, b)
	}
	for range 2 {
		if s, next, err := pack.TakeText(b, 3, 2); s != "ab" || next != 7 || err != api.OK {
			t.Errorf("TakeText: %q, %d, %d", s, next, err)
		}
	}
}
