package journal_test

import (
	"bytes"
	"testing"

	"interregnum/api"
	"interregnum/block"
	"interregnum/journal"
)

// guarded returns a copy of b with other bytes behind it, and a function that reports whether none of them has changed.
func guarded(b []byte) ([]byte, func() bool) {
	all := append(bytes.Clone(b), bytes.Repeat([]byte{0xa5}, 200)...)
	want := bytes.Clone(all)
	return all[:len(b)], func() bool { return bytes.Equal(all, want) }
}

func TestArgumentsAreLeftAsTheyAre(t *testing.T) {
	for _, body := range bodies() {
		arg, same := guarded(body)
		s := block.New()
		j := mustOpen(t, s, arg)
		mustAdd(t, j, arg, api.OK)
		f := found{0, 1, [][]byte{body, body}, 2 * len(blocksOf(body)) / blockLen}
		mustHave(t, j, f)
		mustHave(t, mustOpen(t, s, arg), f)
		mustRewrite(t, j, arg, api.OK)
		mustHave(t, j, found{area, 2, [][]byte{body}, len(blocksOf(body)) / blockLen})
		mustBe(t, s, image{}.with(0, 1, body, body).with(area, 2, body), s.Writes())
		if !same() {
			t.Fatalf("%d bytes were modified", len(body))
		}
	}
}

func TestArgumentsAreNotRetained(t *testing.T) {
	for _, body := range bodies() {
		first, record, snapshot := bytes.Clone(body), bytes.Clone(body), bytes.Clone(body)
		s := block.New()
		j := mustOpen(t, s, first)
		mustAdd(t, j, record, api.OK)
		spoil(first)
		spoil(record)
		f := found{0, 1, [][]byte{body, body}, 2 * len(blocksOf(body)) / blockLen}
		mustHave(t, j, f)
		mustHave(t, mustOpen(t, s, nil), f)
		mustRewrite(t, j, snapshot, api.OK)
		spoil(snapshot)
		f = found{area, 2, [][]byte{body}, len(blocksOf(body)) / blockLen}
		mustHave(t, j, f)
		mustHave(t, mustOpen(t, s, nil), f)
	}
}

// spoil changes all bytes, those beyond the length included.
func spoil(b []byte) {
	b = b[:cap(b)]
	for i := range b {
		b[i] ^= 0xff
	}
}

func TestResultsAreNewMemory(t *testing.T) {
	f := found{0, 3, [][]byte{mixed(100, 1), []byte("a"), mixed(59, 2), []byte("b"), []byte("b")}, 7}
	s, _ := image{}.with(0, 3, f.bodies...).store(t)
	j := mustOpen(t, s, nil)
	mustKeep(t, j, f)
	f, _ = f.adding([]byte("added"))
	mustAdd(t, j, []byte("added"), api.OK)
	mustKeep(t, j, f)
	snapshot := j.Snapshot()
	mustRewrite(t, j, []byte("t"), api.OK)
	if !bytes.Equal(snapshot, f.bodies[0]) {
		t.Fatalf("the snapshot of before has changed")
	}
	mustAdd(t, j, []byte("u"), api.OK)
	mustKeep(t, j, found{area, 4, [][]byte{[]byte("t"), []byte("u")}, 2})
}

// mustKeep fails the test if what the journal has can be changed by its results, or one part of them by another one.
func mustKeep(t *testing.T, j *journal.Journal, f found) {
	t.Helper()
	spoil(j.Snapshot())
	mustHave(t, j, f)
	list := j.Records()
	for i, record := range list {
		spoil(append(record, make([]byte, 300)...)[:0])
		spoil(record)
		for k, other := range list[i+1:] {
			if !bytes.Equal(other, f.bodies[1+i+1+k]) {
				t.Fatalf("record %d shares memory with record %d", i, i+1+k)
			}
		}
	}
	mustHave(t, j, f)
	list = j.Records()
	clear(list[:cap(list)])
	mustHave(t, j, f)
	_ = append(list[:0], []byte("other"), []byte("others"))
	mustHave(t, j, f)
}

func TestRecordsOfBeforeStayAsTheyWere(t *testing.T) {
	j := mustOpen(t, block.New(), nil)
	var lists [][][]byte
	for i := range 40 {
		lists = append(lists, j.Records())
		mustAdd(t, j, []byte{byte(i)}, api.OK)
	}
	for n, list := range lists {
		if len(list) != n {
			t.Fatalf("%d records, not %d", len(list), n)
		}
		for i, record := range list {
			if !bytes.Equal(record, []byte{byte(i)}) {
				t.Fatalf("record %d of %d is %x", i, n, record)
			}
		}
	}
}

func TestNilIsLikeEmpty(t *testing.T) {
	for _, empty := range [][]byte{nil, {}, []byte("rest")[:0]} {
		s := block.New()
		j := mustOpen(t, s, empty)
		mustHave(t, j, found{0, 1, [][]byte{nil}, 1})
		mustAdd(t, j, empty, api.OK)
		mustHave(t, j, found{0, 1, [][]byte{nil, nil}, 2})
		mustRewrite(t, j, empty, api.OK)
		mustHave(t, j, found{area, 2, [][]byte{nil}, 1})
		mustBe(t, s, image{}.with(0, 1, nil, nil).with(area, 2, nil), 5)
		mustNotOpen(t, nil, empty, api.ErrArg)
	}
}

func TestJournalsAreIndependent(t *testing.T) {
	alone, s := block.New(), block.New()
	one := mustOpen(t, alone, []byte("s"))
	two := mustOpen(t, s, []byte("s"))
	var others []*journal.Journal
	for i := range 30 {
		body := mixed(i*7, uint32(i))
		other := block.New()
		others = append(others, mustOpen(t, other, body))
		for _, j := range others {
			mustAdd(t, j, []byte("other"), api.OK)
		}
		other.Arm(0, i)
		mustAdd(t, others[i], body, api.ErrLost)
		others[i] = mustOpen(t, block.New(), nil)
		if i%7 == 6 {
			mustRewrite(t, one, body, api.OK)
			mustRewrite(t, two, body, api.OK)
		}
		mustAdd(t, one, body, api.OK)
		mustAdd(t, two, body, api.OK)
	}
	mustBe(t, s, imageOf(alone), alone.Writes())
	list := append([][]byte{one.Snapshot()}, one.Records()...)
	mustHave(t, two, found{0, uint64(one.Generation()), list, area - 1 - one.Left()})
}

func TestSameCallsAnswerTheSame(t *testing.T) {
	run := func() (*block.Store, *journal.Journal) {
		s := block.New()
		j := mustOpen(t, s, []byte("s"))
		for i := range 20 {
			mustAdd(t, j, mixed(i*11, uint32(i)), api.OK)
		}
		mustRewrite(t, j, mixed(500, 1), api.OK)
		s.Arm(3, 9)
		mustAdd(t, j, mixed(400, 2), api.ErrLost)
		s.Power()
		return s, mustOpen(t, s, nil)
	}
	first, _ := run()
	for range 5 {
		s, j := run()
		mustBe(t, s, imageOf(first), first.Writes())
		mustHave(t, j, found{area, 2, [][]byte{mixed(500, 1)}, 9})
	}
}
