package schema_test

import (
	"math"
	"slices"
	"strings"
	"testing"

	"interregnum/api"
	"interregnum/schema"
)

// mustAgree asks that Decode and Translate return what the document says of b. It reports whether there is a state.
func mustAgree(t *testing.T, b []byte) bool {
	t.Helper()
	want, kind, ok := decoded(b)
	if !ok {
		mustRefuse(t, "no encoding", string(b))
		return false
	}
	if s, k, err := schema.Decode(b); !same(s, want) || k != kind || err != api.OK {
		t.Fatalf("Decode(%q) = %+v, %d, %d, not %+v, %d", b, s, k, err, want, kind)
	}
	mustEncode(t, want, first(want), second(want))
	return true
}

func TestBytesThatAreCutOff(t *testing.T) {
	for _, s := range samples()[:2] {
		for _, b := range []string{first(s), second(s)} {
			for size := range b {
				mustRefuse(t, "cut off", b[:size])
				if size > 0 {
					mustRefuse(t, "without its beginning", b[size:])
				}
			}
		}
	}
}

func TestBytesThatAreFollowedByMore(t *testing.T) {
	for _, s := range samples() {
		for _, b := range []string{first(s), second(s)} {
			for _, more := range []string{"\x00", "\x01", "\xff", "\x00\x00", first(s), second(s)} {
				mustRefuse(t, "followed by more", b+more)
				mustRefuse(t, "after more", more+b)
			}
		}
	}
}

func TestOtherSchemas(t *testing.T) {
	for _, s := range samples() {
		for _, b := range []string{first(s)[2:], second(s)[2:]} {
			for _, kind := range []uint64{0, 3, 4, 255, 256 + 1, 256 + 2, 1<<32 + 1, 1<<32 + 2, 1<<63 + 1, math.MaxUint64, math.MaxUint64 - 1} {
				mustRefuse(t, "another schema", code(kind)+b)
			}
			mustRefuse(t, "a longer number", "\x02\x00\x01"+b)
			mustRefuse(t, "a longer number", "\x02\x00\x02"+b)
		}
		if !strings.HasPrefix(first(s), "\x01\x01") || !strings.HasPrefix(second(s), "\x01\x02") {
			t.Fatalf("%q, %q", first(s), second(s))
		}
	}
	mustRefuse(t, "the first schema as the second one", code(2)+first(rich())[2:])
	mustRefuse(t, "the second schema as the first one", code(1)+second(rich())[2:])
	mustRefuse(t, "nothing", "")
	mustRefuse(t, "a number alone", code(1))
	mustRefuse(t, "a number alone", code(2))
}

// The parts of the encodings of the state rich, from which others are put together.
func richParts() (m, q, j []string) {
	s := rich()
	for _, one := range s.Machines {
		m = append(m, machineCode(one))
	}
	for _, one := range s.Queues {
		q = append(q, queueCode(one))
	}
	for _, one := range s.Jobs {
		j = append(j, jobCode(one))
	}
	return m, q, j
}

func TestJobsInGroups(t *testing.T) {
	m, q, j := richParts()
	d, b, c, f, a, e := j[0], j[1], j[2], j[3], j[4], j[5]
	head := code(2, 7, 300, 3)
	whole := func(onK, onL, onM, inO, inP, inQ string) string {
		return head + m[0] + onK + m[1] + onL + m[2] + onM + code(3) + q[0] + inO + q[1] + inP + q[2] + inQ
	}
	none, k, bc, p, de := code(0), code(1)+a, code(2)+b+c, code(1)+f, code(2)+d+e
	mustEncode(t, rich(), first(rich()), whole(k, none, bc, none, p, de))
	mustAgree(t, []byte(whole(none, none, bc, none, p, code(2)+d+e)))
	for _, wrong := range []struct{ what, b string }{
		{"bound jobs that are not ordered by Seq", whole(k, none, code(2)+c+b, none, p, de)},
		{"waiting jobs that are not ordered by Seq", whole(k, none, bc, none, p, code(2)+e+d)},
		{"jobs that wait in the queue of others", whole(k, none, bc, none, none, code(3)+d+f+e)},
		{"jobs that wait in a queue before theirs", whole(k, none, bc, p, none, de)},
		{"a job that is there twice", whole(k, none, bc, none, p, code(3)+d+d+e)},
		{"a job that waits and is bound", whole(k, none, bc, none, p, code(3)+d+a+e)},
		{"a job that is bound to two machines", whole(k, none, code(3)+b+c+a, none, p, de)},
		{"jobs on a machine that is down", whole(none, k, bc, none, p, de)},
		{"jobs on a machine that is full", whole(none, none, code(3)+b+c+a, none, p, de)},
		{"a job more than there are", whole(k, none, bc, none, p, code(3)+d+e)},
		{"a job less than there are", whole(k, none, bc, none, p, code(1)+d+e)},
		{"a job less than there are on a machine", whole(k, none, code(1)+b+c, none, p, de)},
		{"a job whose Node follows", whole(k+code("k"), none, bc, none, p, de)},
		{"without the last group", whole(k, none, bc, none, p, "")},
	} {
		mustRefuse(t, wrong.what, wrong.b)
	}
}

func TestJobsInTheList(t *testing.T) {
	m, q, j := richParts()
	head := code(1, 7, 300, 3) + strings.Join(m, "") + code(3) + strings.Join(q, "")
	nodes := []string{"", "m", "m", "", "k", ""}
	whole := func(order ...int) string {
		s := head + code(len(order))
		for _, i := range order {
			s += j[i] + code(nodes[i])
		}
		return s
	}
	mustEncode(t, rich(), whole(0, 1, 2, 3, 4, 5), second(rich()))
	for _, some := range [][]int{{}, {0}, {5}, {1, 2}, {0, 1, 3, 4, 5}} {
		if !mustAgree(t, []byte(whole(some...))) {
			t.Errorf("the jobs %v are not decoded", some)
		}
	}
	mustRefuse(t, "by machines", whole(4, 1, 2, 0, 3, 5))
	mustRefuse(t, "in the reverse order", whole(5, 4, 3, 2, 1, 0))
	mustRefuse(t, "one twice", whole(0, 1, 2, 3, 4, 5, 5))
	mustRefuse(t, "without a Node", strings.TrimSuffix(whole(0, 1, 2, 3, 4, 5), code("")))
}

func TestOrderOfTheParts(t *testing.T) {
	m, q, _ := richParts()
	mustAgree(t, []byte(code(1, 7, 300, 1)+m[0]+code(1)+q[0]+code(0)))
	mustRefuse(t, "queues first", code(1, 7, 300, 1)+q[0]+code(1)+m[0]+code(0))
	mustRefuse(t, "Next first", code(1, 300, 0, 0, 0, 0))
	mustRefuse(t, "jobs first", code(1, 7, 300, 0, 0)+code(1)+q[0])
	mustRefuse(t, "machines without groups", code(2, 7, 300, 2)+m[0]+m[1]+code(0, 0, 0))
	mustRefuse(t, "queues without groups", code(2, 7, 300, 0, 2)+q[0]+q[1]+code(0, 0))
}

func TestFlagsAreZeroOrOne(t *testing.T) {
	n := rich().Machines[1].Node
	for _, up := range []uint64{0, 1, 2, 3, 255, 256, 257, 1<<32 + 1, 1<<63 + 1, math.MaxUint64} {
		one := code(1, 7, 300, 1, n.Name, n.Cap, n.Labels, up, 3, 0, 0)
		other := code(2, 7, 300, 1, n.Name, n.Cap, n.Labels, up, 3, 0, 0)
		if up <= 1 {
			if !mustAgree(t, []byte(one)) || !mustAgree(t, []byte(other)) {
				t.Errorf("the flag %d is not decoded", up)
			}
			continue
		}
		mustRefuse(t, "a flag", one)
		mustRefuse(t, "a flag", other)
	}
}

// huge are numbers that are no number of a state, though their last bits may be those of one.
func huge() []uint64 {
	return []uint64{1<<31 + 1, 1<<32 + 1, 1<<40 + 1, 1 << 62, math.MaxInt64, 1 << 63, 1<<63 + 1, math.MaxUint64 - 1, math.MaxUint64}
}

func TestHugeNumbers(t *testing.T) {
	m, q, _ := richParts()
	n, k := rich().Machines[1].Node, "\x01\x01t\x01\x01o\x00\x00\x00\x00\x00\x00\x00\x00"
	for kind := 1; kind <= 2; kind++ {
		// In the second schema, each machine and queue is followed by the number of its jobs, here none.
		none := code(0)[:kind-1]
		last := code(0)[:2-kind]
		for _, big := range huge() {
			for what, b := range map[string]string{
				"Clock":                  code(kind, big, 1, 0, 0) + last,
				"Next":                   code(kind, 0, big, 0, 0) + last,
				"a number of machines":   code(kind, 7, 300, big) + m[0] + none + code(0) + last,
				"no more than a number":  code(kind, 7, 300, big),
				"Until":                  code(kind, 7, 300, 1, n.Name, n.Cap, n.Labels, 0, big) + none + code(0) + last,
				"a Cap":                  code(kind, 7, 300, 1, n.Name, big, 0, 0, n.Labels, 0, 0) + none + code(0) + last,
				"a number of labels":     code(kind, 7, 300, 1, n.Name, n.Cap, big),
				"a number of queues":     code(kind, 7, 300, 0, big) + q[0] + none + last,
				"no more than a number ": code(kind, 7, 300, 0, big),
				"the length of a name":   code(kind, 7, 300, 1, big) + "abc",
			} {
				mustRefuse(t, what, b)
			}
		}
	}
	for _, big := range huge() {
		lists, groups := code(1, 7, 300, 0, 1)+q[0], code(2, 7, 300, 0, 1)+q[0]
		mustRefuse(t, "a number of jobs", lists+code(big)+k+code(2, 0, ""))
		mustRefuse(t, "a number of waiting jobs", groups+code(big)+k+code(2, 0))
		mustRefuse(t, "a number of bound jobs", code(2, 7, 300, 1)+m[0]+code(big)+k+code(2, 1, 1)+q[0]+code(0))
		mustRefuse(t, "a Seq", lists+code(1)+k+code(big, 0, ""))
		mustRefuse(t, "a Seq of a group", groups+code(1)+k+code(big, 0))
		// A job can be bound more often than there are other numbers.
		if big > 1<<40 {
			mustRefuse(t, "a Bound", lists+code(1)+k+code(2, big, ""))
			mustRefuse(t, "a Bound of a group", groups+code(1)+k+code(2, big))
		}
	}
	if !mustAgree(t, []byte(code(1, 7, 300, 0, 1)+q[0]+code(1)+k+code(2, 0, ""))) || !mustAgree(t, []byte(code(2, 7, 300, 0, 1)+q[0]+code(1)+k+code(2, 0))) {
		t.Error("what the others are made from is not decoded")
	}
}

func TestEncodingsOfNumbersThatAreTooLong(t *testing.T) {
	for _, s := range samples()[:2] {
		for _, b := range []string{first(s), second(s)} {
			for at := range b {
				for _, number := range []string{"\x01\x00", "\x02\x00\x01", "\x09", "\xff", "\x08" + repeated(8), "\x08" + repeated(7)} {
					mustAgree(t, []byte(b[:at]+number+b[at+1:]))
					mustAgree(t, []byte(b[:at]+number))
				}
			}
		}
	}
}

func TestEachByteMatters(t *testing.T) {
	for _, s := range samples()[:2] {
		for _, b := range []string{first(s), second(s)} {
			for at := range b {
				for _, c := range []byte{0, 1, 2, 3, 7, 9, 'a', 'm', 255, b[at] + 1, b[at] - 1, b[at] ^ 128} {
					other := []byte(b)
					other[at] = c
					mustAgree(t, other)
				}
			}
		}
	}
}

// changed is an encoding with a few random changes.
func changed(roll func(n int) int, b, other []byte) []byte {
	b = slices.Clone(b)
	for range 1 + roll(2) {
		at := roll(len(b))
		switch roll(6) {
		case 0:
			b[at] = byte(roll(256))
		case 1:
			b[at] += byte(roll(3) - 1)
		case 2:
			b = slices.Insert(b, at, byte(roll(4)))
		case 3:
			b = slices.Delete(b, at, min(len(b), at+1+roll(3)))
		case 4:
			b = slices.Concat(b[:at], other[min(at, len(other)):])
		case 5:
			from := roll(len(b))
			b = slices.Insert(b, at, b[from:min(len(b), from+roll(40))]...)
		}
		if len(b) == 0 {
			return b
		}
	}
	return b
}

func TestChangedBytes(t *testing.T) {
	roll := dice(212)
	decodable, others := 0, 0
	for range 200 {
		s, x := someState(roll), someState(roll)
		for range 20 {
			for _, b := range [][]byte{changed(roll, []byte(first(s)), []byte(first(x))), changed(roll, []byte(second(s)), []byte(second(x)))} {
				if mustAgree(t, b) {
					decodable++
				} else {
					others++
				}
			}
		}
	}
	if decodable < 500 || others < 3000 {
		t.Errorf("%d could be decoded, and %d not", decodable, others)
	}
}

func TestDifferentStatesHaveDifferentEncodings(t *testing.T) {
	var all []api.State
	for _, c := range possible() {
		s := rich()
		c.make(&s)
		all = append(all, s)
	}
	all = append(all, samples()...)
	codes := map[string]int{}
	for i, s := range all {
		for _, b := range []string{first(s), second(s)} {
			if other, ok := codes[b]; ok {
				t.Errorf("the states %d and %d have the encoding %q", i, other, b)
			}
			codes[b] = i
			mustAgree(t, []byte(b))
		}
	}
}
