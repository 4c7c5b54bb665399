package oper_test

import (
	"fmt"
	"math"
	"slices"
	"strings"
	"testing"

	"interregnum/api"
	"interregnum/ident"
	"interregnum/model"
	"interregnum/oper"
	"interregnum/pack"
)

// seventeen is one byte too long for a name.
const seventeen = "0123456789abcdefg"

func mustEncode(t *testing.T, o api.Op, want string) {
	t.Helper()
	if b, err := oper.Encode(o); string(b) != want || err != api.OK {
		t.Errorf("Encode(%+v) = %q, %d, not %q", o, b, err, want)
	}
}

func TestOperationsAreEncoded(t *testing.T) {
	mustEncode(t, api.Op{Kind: api.Tick}, "\x01\x09")
	mustEncode(t, api.Op{Kind: api.DropNode, Name: "n"}, "\x01\x02\x01\x01n")
	mustEncode(t, api.Op{Kind: api.DropQueue, Name: "q-1"}, "\x01\x04\x01\x03q-1")
	mustEncode(t, api.Op{Kind: api.Cancel, Name: "t"}, "\x01\x06\x01\x01t")
	mustEncode(t, api.Op{Kind: api.Finish, Name: "0123456789abcdef"}, "\x01\x07\x01\x100123456789abcdef")
	mustEncode(t, api.Op{Kind: api.Beat, Name: "n"}, "\x01\x08\x01\x01n")
	mustEncode(t, api.Op{Kind: api.AddNode, Node: api.Node{Name: "n1", Cap: api.Res{4, 300, 0}, Labels: labels("gpu", "a")}},
		"\x01\x01\x01\x02n1\x01\x04\x02\x01\x2c\x00\x01\x01\x01\x03gpu\x01\x01a")
	mustEncode(t, api.Op{Kind: api.AddQueue, Queue: api.Queue{Name: "q", Quota: api.Res{1, 0, 0}}}, "\x01\x03\x01\x01q\x01\x01\x00\x00")
	mustEncode(t, api.Op{Kind: api.Submit, Task: api.Task{Name: "t", Queue: "qq", Prio: 9, Need: api.Res{1, 2, 300}, Wants: labels("k", "v"), Apart: "x", Gang: "g", Size: 3}},
		"\x01\x05\x01\x01t\x01\x02qq\x01\x09\x01\x01\x01\x02\x02\x01\x2c\x01\x01\x01\x01k\x01\x01v\x01\x01x\x01\x01g\x01\x03")
}

// rest is the encoding of what o uses.
func rest(o api.Op) []byte {
	switch kinds()[o.Kind] {
	case node:
		return model.PutNode(nil, o.Node)
	case queue:
		return model.PutQueue(nil, o.Queue)
	case task:
		return model.PutTask(nil, o.Task)
	case name:
		return pack.PutText(nil, o.Name)
	}
	return nil
}

func TestEncodingsAreTheKindAndWhatItUses(t *testing.T) {
	for _, o := range samples() {
		want := string([]byte{1, byte(o.Kind)}) + string(rest(o))
		mustEncode(t, o, want)
		mustEncode(t, withEmptyLists(o), want)
	}
}

func TestWhatIsNotRightIsNotEncoded(t *testing.T) {
	ops := slices.Concat(wrong(), overloaded(), []api.Op{{}})
	for _, kind := range otherKinds() {
		for _, o := range samples() {
			o.Kind = kind
			ops = append(ops, o)
		}
	}
	for _, o := range ops {
		if b, err := oper.Encode(o); len(b) != 0 || err != api.ErrArg {
			t.Errorf("Encode(%+v) = %q, %d", o, b, err)
		}
	}
}

func TestDecodeInvertsEncode(t *testing.T) {
	for _, o := range samples() {
		b, err := oper.Encode(o)
		if err != api.OK {
			t.Fatalf("Encode(%+v): %d", o, err)
		}
		if p, err := oper.Decode(b); !same(p, o) || err != api.OK {
			t.Errorf("Decode(%q) = %+v, %d, not %+v", b, p, err, o)
		}
	}
}

// decoded is what the document says of b: that it is an operation, or the first error.
func decoded(b []byte) (api.Op, api.Errno) {
	kind, at, err := pack.Take(b, 0)
	if err != api.OK {
		return api.Op{}, err
	}
	if kind < 1 || kind > 9 {
		return api.Op{}, api.ErrForm
	}
	o := api.Op{Kind: int(kind)}
	switch kinds()[o.Kind] {
	case node:
		o.Node, at, err = model.TakeNode(b, at)
	case queue:
		o.Queue, at, err = model.TakeQueue(b, at)
	case task:
		o.Task, at, err = model.TakeTask(b, at)
	case name:
		if o.Name, at, err = pack.TakeText(b, at, 16); err == api.OK && !ident.Name(o.Name) {
			err = api.ErrForm
		}
	}
	if err == api.OK && at < len(b) {
		err = api.ErrForm
	}
	if err != api.OK {
		return api.Op{}, err
	}
	return o, api.OK
}

// mustDecode decodes b, and fails the test if the result is not what the document says. It returns the error.
func mustDecode(t *testing.T, b []byte) api.Errno {
	t.Helper()
	want, wantErr := decoded(b)
	o, err := oper.Decode(b)
	if !same(o, want) || err != wantErr {
		t.Fatalf("Decode(%q) = %+v, %d, not %+v, %d", b, o, err, want, wantErr)
	}
	if err != api.OK {
		return err
	}
	if again, err := oper.Encode(o); !oper.Right(o) || !slices.Equal(again, b) || err != api.OK {
		t.Fatalf("%q is decoded as %+v, whose encoding is %q, %d", b, o, again, err)
	}
	return api.OK
}

func TestErrorsOfDecode(t *testing.T) {
	const huge = "\x08\xff\xff\xff\xff\xff\xff\xff\xff"
	for _, c := range []struct {
		b    string
		want api.Errno
	}{
		{"\x01\x09", api.OK},
		{"\x01\x06\x01\x01t", api.OK},
		// The error of layer 1 for the kind.
		{"", api.ErrShort},
		{"\x01", api.ErrShort},
		{"\x02\x01", api.ErrShort},
		{"\x08\xff\xff\xff\xff\xff\xff\xff", api.ErrShort},
		{"\x09", api.ErrForm},
		{"\xff", api.ErrForm},
		{"\x01\x00", api.ErrForm},
		{"\x02\x00\x09", api.ErrForm},
		{"\x02\x00", api.ErrShort},
		// Kinds that do not exist, whatever follows.
		{"\x00", api.ErrForm},
		{"\x00\x00", api.ErrForm},
		{"\x01\x0a", api.ErrForm},
		{"\x01\xff", api.ErrForm},
		{"\x01\x0a\x01\x01t", api.ErrForm},
		{"\x01\x0a\x01\x11" + seventeen, api.ErrForm},
		{"\x02\x01\x09", api.ErrForm},
		{"\x03\x01\x00\x06\x01\x01t", api.ErrForm},
		{"\x05\x01\x00\x00\x00\x09", api.ErrForm},
		{"\x08\x80\x00\x00\x00\x00\x00\x00\x09", api.ErrForm},
		{huge, api.ErrForm},
		// What follows is cut off, too long, or no encoding.
		{"\x01\x01", api.ErrShort},
		{"\x01\x03\x01\x01q\x00\x00", api.ErrShort},
		{"\x01\x03\x01\x01q\x04\xff\xff\xff\xff\x00\x00", api.ErrForm},
		{"\x01\x03\x01\x11" + seventeen + "\x00\x00\x00", api.ErrLong},
		{"\x01\x03\x01\x01Q\x00\x00\x00", api.ErrForm},
		{"\x01\x01\x01\x01n\x00\x00\x00\x01\x05", api.ErrLong},
		{"\x01\x05\x01\x01t\x01\x01q\x01\x0a\x00\x00\x00\x00\x00\x00\x00", api.ErrForm},
		// Bytes are left, which comes last.
		{"\x01\x09\x00", api.ErrForm},
		{"\x01\x09\x01\x09", api.ErrForm},
		{"\x01\x03\x01\x01q\x00\x00\x00\x00", api.ErrForm},
		{"\x01\x01\x01\x01n\x00\x00\x00\x00\xff", api.ErrForm},
		{"\x01\x05\x01\x01t\x01\x01q\x00\x00\x00\x00\x00\x00\x00\x00\x01", api.ErrForm},
	} {
		if err := mustDecode(t, []byte(c.b)); err != c.want {
			t.Errorf("Decode(%q): error %d, not %d", c.b, err, c.want)
		}
	}
}

func TestErrorsOfDecodedNames(t *testing.T) {
	for kind, part := range kinds() {
		if part != name {
			continue
		}
		before := string([]byte{1, byte(kind)})
		for _, c := range []struct {
			b    string
			want api.Errno
		}{
			{"\x01\x01t", api.OK},
			{"\x01\x100123456789abcdef", api.OK},
			{"", api.ErrShort},
			{"\x01", api.ErrShort},
			{"\x01\x01", api.ErrShort},
			{"\x01\x10", api.ErrShort},
			{"\x01\x02T", api.ErrShort},
			{"\x09", api.ErrForm},
			{"\x01\x00", api.ErrForm},
			{"\x02\x00\x01t", api.ErrForm},
			{"\x01\x11" + seventeen, api.ErrLong},
			{"\x01\x11", api.ErrLong},
			{"\x02\x01\x00", api.ErrLong},
			{"\x01\xffT", api.ErrLong},
			{"\x08\xff\xff\xff\xff\xff\xff\xff\xff", api.ErrLong},
			{"\x01\x11" + strings.ToUpper(seventeen) + "T", api.ErrLong},
			{"\x00", api.ErrForm},
			{"\x01\x01T", api.ErrForm},
			{"\x01\x01-", api.ErrForm},
			{"\x01\x02t\x00", api.ErrForm},
			{"\x01\x01tt", api.ErrForm},
			{"\x01\x01t\x00", api.ErrForm},
			{"\x01\x01T\x00", api.ErrForm},
		} {
			if err := mustDecode(t, []byte(before+c.b)); err != c.want {
				t.Errorf("Decode(%q): error %d, not %d", before+c.b, err, c.want)
			}
		}
	}
}

func TestCutOffOperationsAreShort(t *testing.T) {
	for _, o := range samples() {
		b, _ := oper.Encode(o)
		for size := range b {
			if err := mustDecode(t, b[:size]); err != api.ErrShort {
				t.Errorf("Decode(%q): error %d", b[:size], err)
			}
		}
	}
}

// TestNothingElseIsDecoded decodes bytes that differ from encodings in a byte: changed, left out, or put in.
func TestNothingElseIsDecoded(t *testing.T) {
	for _, o := range samples() {
		whole, _ := oper.Encode(o)
		for at := range len(whole) + 1 {
			for x := range 256 {
				mustDecode(t, slices.Insert(slices.Clone(whole), at, byte(x)))
			}
			if at == len(whole) {
				break
			}
			mustDecode(t, slices.Delete(slices.Clone(whole), at, at+1))
			mustDecode(t, whole[at:])
			for x := range 256 {
				changed := slices.Clone(whole)
				changed[at] = byte(x)
				mustDecode(t, changed)
			}
		}
	}
}

func TestAllKindsAreDecodedByTheirNumbers(t *testing.T) {
	follow := [][]byte{nil, {0}}
	for _, o := range samples() {
		follow = append(follow, rest(o))
	}
	for _, after := range follow {
		for kind := range uint64(300) {
			mustDecode(t, slices.Concat(pack.Put(nil, kind), after))
		}
		for _, kind := range otherKinds() {
			b := slices.Concat(pack.Put(nil, uint64(kind)), after)
			if err := mustDecode(t, b); err != api.ErrForm {
				t.Errorf("Decode(%q): error %d", b, err)
			}
		}
	}
}

func TestShortBytesAreDecodedAsTheDocumentSays(t *testing.T) {
	mustDecode(t, nil)
	mustDecode(t, []byte{})
	taken := 0
	for first := range 12 {
		for second := range 12 {
			for third := range 256 {
				for _, size := range []int{1, 2, 3} {
					if mustDecode(t, []byte{byte(first), byte(second), byte(third)}[:size]) == api.OK {
						taken++
					}
				}
			}
		}
	}
	if taken == 0 {
		t.Error("no operation was decoded")
	}
}

func TestEncodingsDiffer(t *testing.T) {
	seen := map[string]string{}
	for _, o := range samples() {
		b, _ := oper.Encode(o)
		text := fmt.Sprintf("%+v", o)
		if other, ok := seen[string(b)]; ok && other != text {
			t.Errorf("%s and %s have the encoding %q", text, other, b)
		}
		seen[string(b)] = text
	}
}

func TestEncodingLeavesTheArgument(t *testing.T) {
	for _, o := range slices.Concat(samples(), wrong(), overloaded()) {
		kept := clone(o)
		oper.Encode(o)
		if !same(o, kept) {
			t.Errorf("%+v became %+v", kept, o)
		}
	}
}

func TestLabelsBeyondTheLengthAreNotRead(t *testing.T) {
	whole := labels("a", "1", "b", "2", "a", "3", "", "")
	kept := slices.Clone(whole)
	mustEncode(t, api.Op{Kind: api.AddNode, Node: api.Node{Name: "n", Labels: whole[:1]}}, "\x01\x01\x01\x01n\x00\x00\x00\x01\x01\x01\x01a\x01\x011")
	mustEncode(t, api.Op{Kind: api.Tick, Node: api.Node{Labels: whole[:0]}, Task: api.Task{Wants: whole[3:3]}}, "\x01\x09")
	if !slices.Equal(whole, kept) {
		t.Errorf("the labels became %q", whole)
	}
}

func TestEncodingsShareNoMemory(t *testing.T) {
	for _, o := range samples() {
		one, _ := oper.Encode(o)
		other, _ := oper.Encode(o)
		want := slices.Clone(one)
		for i := range one {
			one[i] = 0xee
		}
		_ = append(one, "zzzz"...)
		if again, _ := oper.Encode(o); !slices.Equal(other, want) || !slices.Equal(again, want) {
			t.Errorf("%+v: writing to a result changed another one to %q or %q", o, other, again)
		}
	}
}

func TestDecodingIsIntoNewMemory(t *testing.T) {
	for _, o := range samples() {
		b, _ := oper.Encode(o)
		whole := slices.Concat(b, []byte("beyond"))
		kept := slices.Clone(whole)
		one, err := oper.Decode(whole[:len(b)])
		other, otherErr := oper.Decode(whole[:len(b)])
		if err != api.OK || otherErr != api.OK || !slices.Equal(whole, kept) {
			t.Fatalf("%+v: errors %d and %d; the bytes became %q", o, err, otherErr, whole)
		}
		for i := range whole {
			whole[i] = 'x'
		}
		if !same(one, o) {
			t.Errorf("%+v became %+v with the bytes from which it was decoded", o, one)
		}
		clear(one.Node.Labels)
		clear(one.Task.Wants)
		_ = append(one.Node.Labels, labels("y", "y")...)
		if !same(other, o) {
			t.Errorf("%+v became %+v with another result", o, other)
		}
		// The last byte is there, but beyond the length.
		if _, err := oper.Decode(kept[:len(b)-1]); err != api.ErrShort {
			t.Errorf("%+v without its last byte: error %d", o, err)
		}
	}
}

func TestCallsDoNotDependOnEarlierOnes(t *testing.T) {
	for _, o := range samples() {
		want, _ := oper.Encode(o)
		for _, x := range []api.Op{{}, {Kind: math.MinInt}, {Kind: api.Submit}, o} {
			oper.Right(x)
			oper.Encode(x)
		}
		for size := range len(want) + 1 {
			mustDecode(t, want[:size])
			mustDecode(t, want)
		}
		mustEncode(t, o, string(want))
	}
}

func TestManyBytesAreNotDecoded(t *testing.T) {
	for _, x := range []byte{0, 1, 9, 255} {
		many := make([]byte, 1<<20)
		for i := range many {
			many[i] = x
		}
		for kind := range 11 {
			if err := mustDecode(t, slices.Concat([]byte{1, byte(kind)}, many)); err == api.OK {
				t.Errorf("kind %d and many bytes %d are decoded", kind, x)
			}
		}
	}
}
