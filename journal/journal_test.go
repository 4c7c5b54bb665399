package journal_test

import (
	"bytes"
	"testing"

	"interregnum/api"
	"interregnum/block"
	"interregnum/journal"
)

func TestExamples(t *testing.T) {
	s := block.New()
	j := mustOpen(t, s, []byte("s"))
	if j.Generation() != 1 || j.Left() != 510 {
		t.Errorf("generation %d, %d blocks left", j.Generation(), j.Left())
	}
	mustAdd(t, j, []byte("a"), api.OK)
	s.Arm(0, 32)
	mustAdd(t, j, []byte("b"), api.ErrLost)
	s.Power()
	j = mustOpen(t, s, []byte("other"))
	mustHave(t, j, found{0, 1, [][]byte{[]byte("s"), []byte("a")}, 2})
	mustRewrite(t, j, []byte("t"), api.OK)
	if j.Generation() != 2 || len(j.Records()) != 0 {
		t.Errorf("generation %d, records %q", j.Generation(), j.Records())
	}
}

func TestAreasHaveHalfOfTheBlocks(t *testing.T) {
	if journal.Area != 512 {
		t.Errorf("Area is %d", journal.Area)
	}
}

// TestBytesOfAStore lays all blocks by hand, so that no other test's images must be believed.
func TestBytesOfAStore(t *testing.T) {
	s := block.New()
	j := mustOpen(t, s, []byte("s"))
	mustAdd(t, j, []byte("a"), api.OK)
	mustAdd(t, j, bytes.Repeat([]byte("b"), 59), api.OK)
	m := image{}
	m.put(0, blocksOf([]byte{1, 1}))
	m.put(1, blocksOf([]byte("s")))
	m.put(2, blocksOf([]byte("a")))
	m.put(3, blocksOf(bytes.Repeat([]byte("b"), 59)))
	mustBe(t, s, m, 5)
	mustRewrite(t, j, []byte("t"), api.OK)
	mustAdd(t, j, []byte("c"), api.OK)
	m.put(512, blocksOf([]byte{1, 2}))
	m.put(513, blocksOf([]byte("t")))
	m.put(514, blocksOf([]byte("c")))
	mustBe(t, s, m, 8)
	mustRewrite(t, j, []byte("u"), api.OK)
	m.put(0, blocksOf([]byte{1, 3}))
	m.put(1, blocksOf([]byte("u")))
	m.put(2, make([]byte, 3*64))
	mustBe(t, s, m, 8+5+2)
}

func TestOpenOfNewStores(t *testing.T) {
	for _, first := range bodies() {
		for _, s := range []*block.Store{block.New(), new(block.Store)} {
			f, list := image{}.opening(first)
			mustHave(t, mustOpen(t, s, first), f)
			mustBe(t, s, image{}.after(list), len(list))
		}
	}
}

func TestOpenWithLongestSnapshot(t *testing.T) {
	s := block.New()
	first := mixed(maxFirst, 5)
	j := mustOpen(t, s, first)
	mustHave(t, j, found{0, 1, [][]byte{first}, 511})
	mustAdd(t, j, nil, api.ErrFull)
	mustHave(t, mustOpen(t, s, nil), found{0, 1, [][]byte{first}, 511})
	mustBe(t, s, image{}.with(0, 1, first), 512)
}

func TestOpenRefusesSnapshots(t *testing.T) {
	for _, m := range []image{{}, image{}.with(area, 7, []byte("s"), []byte("r"))} {
		s, writes := m.store(t)
		for _, size := range tooLong() {
			mustNotOpen(t, s, mixed(size, 1), api.ErrLong)
			mustNotOpen(t, nil, mixed(size, 1), api.ErrArg)
		}
		for _, size := range tooMany() {
			mustNotOpen(t, s, mixed(size, 1), api.ErrFull)
			mustNotOpen(t, nil, mixed(size, 1), api.ErrArg)
		}
		mustNotOpen(t, nil, nil, api.ErrArg)
		mustNotOpen(t, nil, []byte("s"), api.ErrArg)
		mustBe(t, s, m, writes)
	}
}

func TestOpenNeedsPower(t *testing.T) {
	for _, m := range []image{{}, image{}.with(0, 1, []byte("s")), image{}.with(area, 2, []byte("s")).put(600, mixed(64, 1))} {
		s, writes := m.store(t)
		turnOff(t, s, m)
		mustNotOpen(t, s, []byte("s"), api.ErrLost)
		mustNotOpen(t, s, nil, api.ErrLost)
		mustNotOpen(t, s, mixed(maxBody+1, 1), api.ErrLong)
		mustNotOpen(t, s, mixed(maxFirst+1, 1), api.ErrFull)
		mustBe(t, s, m, writes+1)
		s.Power()
		f, list := m.opening([]byte("s"))
		mustHave(t, mustOpen(t, s, []byte("s")), f)
		mustBe(t, s, m.after(list), writes+1+len(list))
	}
}

// turnOff lets the power fail in a write that changes nothing.
func turnOff(t *testing.T, s *block.Store, m image) {
	t.Helper()
	s.Arm(0, 0)
	if err := s.Write(0, m.get(0, 1)); err != api.ErrLost || !s.Down() {
		t.Fatalf("the power is on, error %d", err)
	}
}

// notValid are areas that are not valid, each as the blocks from its first one on.
func notValid() map[string][]byte {
	s := blocksOf([]byte("s"))
	join := func(list ...[]byte) []byte { return bytes.Join(list, nil) }
	flipped := func(b []byte, at int) []byte {
		b = bytes.Clone(b)
		b[at] ^= 1
		return b
	}
	return map[string][]byte{
		"nothing":                            nil,
		"no generation":                      join(make([]byte, 64), s),
		"no snapshot":                        head(9),
		"snapshot elsewhere":                 join(head(9), make([]byte, 64), s),
		"generation 0":                       join(head(0), s),
		"generation above 2^62":              join(head(1<<62+1), s),
		"generation 2^63":                    join(head(1<<63), s),
		"generation 2^63+1":                  join(head(1<<63+1), s),
		"greatest number":                    join(head(1<<64-1), s),
		"no bytes in the first block":        join(blocksOf(nil), s),
		"too few bytes in the first block":   join(blocksOf([]byte{2, 1}), s),
		"too many bytes in the first block":  join(blocksOf([]byte{1, 9, 0}), s),
		"two numbers in the first block":     join(blocksOf([]byte{1, 9, 1, 9}), s),
		"a zero byte before the generation":  join(blocksOf([]byte{2, 0, 9}), s),
		"nine bytes":                         join(blocksOf([]byte{9, 1, 1, 1, 1, 1, 1, 1, 1, 1}), s),
		"two blocks of one body":             join(blocksOf(append([]byte{1, 9}, make([]byte, 57)...)), s),
		"a piece that is not the last one":   join(blocksOf(mixed(59, 1))[:64], s),
		"a piece of a body that ends beyond": join(blocksOf(append([]byte{1, 9}, make([]byte, 56)...), []byte("x"))[:64], s),
		"first block without its mark":       join(flipped(head(9), 63), s),
		"first block with another checksum":  join(flipped(head(9), 61), s),
		"first block with another byte":      join(flipped(head(9), 3), s),
		"first block of another kind":        join(flipped(head(9), 0), s),
		"first block with a long piece":      join(flipped(head(9), 1), s),
		"first block with more than a piece": join(flipped(head(9), 30), s),
		"snapshot without its mark":          join(head(9), flipped(s, 63)),
		"snapshot with another checksum":     join(head(9), flipped(s, 60)),
		"snapshot with another byte":         join(head(9), flipped(s, 2)),
		"snapshot without its last block":    join(head(9), blocksOf(mixed(117, 3))[:128]),
		"snapshot without its first block":   join(head(9), make([]byte, 64), blocksOf(mixed(117, 3))[64:]),
		"snapshot that leaves the area":      join(head(9), blocksOf(mixed(maxFirst+1, 3))[:511*64]),
		"bytes without a pattern":            mixed(512*64, 3),
	}
}

func TestAreasThatAreNotValid(t *testing.T) {
	for name, b := range notValid() {
		t.Run(name, func(t *testing.T) {
			for _, m := range []image{image{}.put(0, b), image{}.put(area, b), image{}.put(0, b).put(area, b), image{}.put(0, b).put(area, mixed(area*blockLen, 6))} {
				mustBegin(t, m)
			}
			valid := [][]byte{[]byte("v"), []byte("r")}
			mustFind(t, image{}.put(0, b).with(area, 1, valid...), found{area, 1, valid, 2})
			mustFind(t, image{}.with(0, 1, valid...).put(area, b), found{0, 1, valid, 2})
		})
	}
}

// mustBegin fails the test if Open does not restart the first area, whatever was there.
func mustBegin(t *testing.T, m image) {
	t.Helper()
	first := mixed(70, 8)
	s, writes := m.store(t)
	j := mustOpen(t, s, first)
	mustHave(t, j, found{0, 1, [][]byte{first}, 2})
	list := m.erasing(0, area)
	after := m.after(list).with(0, 1, first)
	mustBe(t, s, after, writes+len(list)+3)
}

// mustFind fails the test if Open does not find this, or writes anything else than zero bytes after the last body.
func mustFind(t *testing.T, m image, f found) {
	t.Helper()
	s, writes := m.store(t)
	j := mustOpen(t, s, []byte("not needed"))
	mustHave(t, j, f)
	list := m.erasing(f.at+1+f.used, area-1-f.used)
	m = m.after(list)
	mustBe(t, s, m, writes+len(list))
	// What follows is laid where it was found.
	f, added := f.adding([]byte("more"))
	mustAdd(t, j, []byte("more"), api.OK)
	mustHave(t, j, f)
	mustBe(t, s, m.after(added), writes+len(list)+1)
}

func TestOpenTakesTheGreaterGeneration(t *testing.T) {
	one, two := [][]byte{[]byte("one"), []byte("r")}, [][]byte{mixed(100, 1), mixed(59, 2), nil}
	for _, c := range []struct {
		first, second uint64
		at            int
	}{
		{1, 2, area}, {2, 1, 0}, {1, 1, 0}, {2, 2, 0}, {7, 7, 0}, {2, 4, area}, {3, 1, 0}, {255, 256, area}, {256, 255, 0}, {1<<62 - 1, 1 << 62, area}, {1 << 62, 1<<62 - 1, 0}, {1 << 62, 1 << 62, 0},
		{1 << 40, 1<<40 + 1, area}, {1 << 32, 1, 0}, {1, 1 << 32, area}, {1 << 62, 1, 0}, {1, 1 << 62, area}, {0, 1, area}, {1, 0, 0}, {1<<62 + 1, 1, area}, {5, 1<<62 + 1, 0}, {5, 1 << 63, 0}, {1<<63 + 1, 5, area},
	} {
		m := image{}.with(0, c.first, one...).with(area, c.second, two...)
		f := found{0, c.first, one, 2}
		if c.at == area {
			f = found{area, c.second, two, 5}
		}
		mustFind(t, m, f)
	}
}

func TestOpenFindsEachGeneration(t *testing.T) {
	for _, generation := range []uint64{1, 2, 3, 127, 128, 255, 256, 257, 65535, 65536, 1 << 24, 1<<31 - 1, 1 << 31, 1 << 32, 1<<56 - 1, 1 << 56, 1<<62 - 1, 1 << 62} {
		for _, at := range []int{0, area} {
			mustFind(t, image{}.with(at, generation, []byte("s")), found{at, generation, [][]byte{[]byte("s")}, 1})
		}
	}
}

func TestOpenErasesWhatIsAfterTheLastBody(t *testing.T) {
	list := [][]byte{[]byte("s"), mixed(100, 1)}
	broken := blocksOf(mixed(170, 4))[:2*64]
	for _, at := range []int{0, area} {
		whole := found{at, 3, list, 3}
		m := func() image { return image{}.with(at, 3, list...).with(area-at, 2, []byte("old"), []byte("r")) }
		mustFind(t, m(), whole)
		mustFind(t, m().put(at+4, []byte{1}), whole)
		mustFind(t, m().put(at+5, []byte{1}), whole)
		mustFind(t, m().put(at+area-1, append(make([]byte, 63), 9)), whole)
		mustFind(t, m().put(at+4, broken), whole)
		mustFind(t, m().put(at+4, broken).put(at+6, blocksOf([]byte("x"))[:63]), whole)
		mustFind(t, m().put(at+5, blocksOf([]byte("not right after the others"))), whole)
		mustFind(t, m().put(at+4, mixed((area-4)*blockLen, 2)), whole)
		mustFind(t, m().put(at+4, blocksOf(nil)), found{at, 3, append(list[:2:2], nil), 4})
		mustFind(t, m().put(at+4, blocksOf([]byte{0})).put(at+5, broken), found{at, 3, append(list[:2:2], []byte{0}), 4})
		mustFind(t, m().put(at+1, make([]byte, 64)).put(at+1, blocksOf(nil)), found{at, 3, append([][]byte{nil}, list[1]), 3})
	}
}

func TestAreaEndsWhereTheOtherBegins(t *testing.T) {
	// A body whose blocks go on in the other area is none.
	s := blocksOf(mixed(500*room, 1))
	m := image{}.put(0, head(2)).put(1, s).put(501, blocksOf(mixed(20*room, 2)))
	mustFind(t, m, found{0, 2, [][]byte{mixed(500*room, 1)}, 500})
	full := [][]byte{mixed(500*room, 1), mixed(10*room, 2), []byte("last")}
	m = image{}.with(0, 2, full...).put(area, blocksOf([]byte("behind")))
	for range 2 {
		store, writes := m.store(t)
		j := mustOpen(t, store, nil)
		mustAdd(t, j, nil, api.ErrFull)
		mustBe(t, store, m, writes)
		mustHave(t, j, found{0, 2, full, 511})
		m = image{}.with(0, 2, full...).with(area, 1, full...)
	}
}

func TestAddAppends(t *testing.T) {
	for _, m := range []image{{}, image{}.with(0, 4, []byte("s")), image{}.with(area, 5, []byte("s"), []byte("r")).with(0, 4, mixed(5000, 1))} {
		s, _ := m.store(t)
		f, _ := m.opening([]byte("first"))
		j := mustOpen(t, s, []byte("first"))
		m, writes := imageOf(s), s.Writes()
		for _, body := range bodies() {
			var list []change
			f, list = f.adding(body)
			mustAdd(t, j, body, api.OK)
			m, writes = m.after(list), writes+len(list)
			mustBe(t, s, m, writes)
			mustHave(t, j, f)
		}
		mustHave(t, mustOpen(t, s, nil), f)
		mustBe(t, s, m, writes)
	}
}

func TestAddUntilNoBlockIsLeft(t *testing.T) {
	s := block.New()
	j := mustOpen(t, s, nil)
	f := found{0, 1, [][]byte{nil}, 1}
	for i := range 510 {
		if j.Left() != 510-i {
			t.Fatalf("%d blocks left, not %d", j.Left(), 510-i)
		}
		mustAdd(t, j, mixed(i%59, uint32(i)), api.OK)
		f, _ = f.adding(mixed(i%59, uint32(i)))
	}
	mustHave(t, j, f)
	writes := s.Writes()
	m := imageOf(s)
	for _, body := range bodies() {
		mustAdd(t, j, body, api.ErrFull)
	}
	mustAdd(t, j, mixed(maxBody+1, 1), api.ErrLong)
	mustHave(t, j, f)
	mustBe(t, s, m, writes)
	j = mustOpen(t, s, nil)
	mustHave(t, j, f)
	mustAdd(t, j, nil, api.ErrFull)
	mustRewrite(t, j, []byte("t"), api.OK)
	mustHave(t, j, found{area, 2, [][]byte{[]byte("t")}, 1})
}

func TestAddNeedsRoom(t *testing.T) {
	for _, used := range []int{1, 2, 3, 100, 500, 509, 510, 511} {
		m := image{}.with(area, 3, mixed(used*room, 1))
		left := area - 1 - used
		s, writes := m.store(t)
		j := mustOpen(t, s, nil)
		for _, size := range []int{left*room + 1, left*room + 2, left*room + room, left*room + room + 1, maxBody - 1, maxBody} {
			if size <= maxBody {
				mustAdd(t, j, mixed(size, 2), api.ErrFull)
			}
		}
		for _, size := range tooLong() {
			mustAdd(t, j, mixed(size, 2), api.ErrLong)
		}
		mustHave(t, j, found{area, 3, [][]byte{mixed(used*room, 1)}, used})
		mustBe(t, s, m, writes)
		if left == 0 {
			continue
		}
		mustAdd(t, j, mixed(left*room, 2), api.OK)
		f := found{area, 3, [][]byte{mixed(used*room, 1), mixed(left*room, 2)}, 511}
		mustHave(t, j, f)
		mustBe(t, s, image{}.with(area, 3, f.bodies...), writes+left)
		mustHave(t, mustOpen(t, s, nil), f)
	}
}

func TestRewriteRestartsTheOtherArea(t *testing.T) {
	for _, m := range []image{
		image{},
		image{}.with(0, 2, []byte("s"), []byte("r")),
		image{}.with(0, 2, []byte("s")).with(area, 1, mixed(100, 1), mixed(200, 2)),
		image{}.with(area, 1, []byte("s"), []byte("r")),
		image{}.with(area, 1<<40-1, []byte("s"), []byte("r")).with(0, 5, mixed(100, 1), mixed(200, 2)),
		image{}.with(area, 8, []byte("s")).put(0, mixed(area*blockLen, 2)),
		image{}.with(0, 255, []byte("s")).put(area, mixed(area*blockLen, 2)),
		image{}.with(0, 8, []byte("s")).with(area, 8, []byte("t")).put(2*area-1, []byte{1}),
		image{}.with(0, 1<<62-1, []byte("s")).put(area, head(77)),
	} {
		s, _ := m.store(t)
		f, _ := m.opening([]byte("first"))
		j := mustOpen(t, s, []byte("first"))
		m, writes := imageOf(s), s.Writes()
		for i, snapshot := range bodies() {
			var list []change
			f, list = m.rewriting(f, snapshot)
			mustRewrite(t, j, snapshot, api.OK)
			m, writes = m.after(list), writes+len(list)
			mustBe(t, s, m, writes)
			mustHave(t, j, f)
			if f.generation == 1<<62 {
				break
			}
			for k := range i % 4 {
				f, list = f.adding(mixed(50*k, uint32(i)))
				mustAdd(t, j, mixed(50*k, uint32(i)), api.OK)
				m, writes = m.after(list), writes+len(list)
			}
			mustBe(t, s, m, writes)
		}
		mustHave(t, mustOpen(t, s, nil), f)
		mustBe(t, s, m, writes)
	}
}

func TestRewriteNeedsRoom(t *testing.T) {
	m := image{}.with(0, 6, []byte("s"), []byte("r")).with(area, 5, mixed(3000, 1), []byte("old"))
	s, writes := m.store(t)
	j := mustOpen(t, s, nil)
	for _, size := range tooMany() {
		mustRewrite(t, j, mixed(size, 2), api.ErrFull)
	}
	for _, size := range tooLong() {
		mustRewrite(t, j, mixed(size, 2), api.ErrLong)
	}
	f := found{0, 6, [][]byte{[]byte("s"), []byte("r")}, 2}
	mustHave(t, j, f)
	mustBe(t, s, m, writes)
	mustHave(t, mustOpen(t, s, nil), f)
	f, list := m.rewriting(f, mixed(maxFirst, 2))
	mustRewrite(t, j, mixed(maxFirst, 2), api.OK)
	mustHave(t, j, f)
	mustBe(t, s, m.after(list), writes+len(list))
	mustAdd(t, j, nil, api.ErrFull)
	mustHave(t, mustOpen(t, s, nil), f)
}

func TestWritesNeedPower(t *testing.T) {
	m := image{}.with(0, 6, []byte("s"), []byte("r"))
	f := found{0, 6, [][]byte{[]byte("s"), []byte("r")}, 2}
	for _, write := range []func(j *journal.Journal, body []byte) api.Errno{(*journal.Journal).Add, (*journal.Journal).Rewrite} {
		for _, body := range [][]byte{nil, []byte("x"), mixed(300, 1), mixed(509*room, 1)} {
			s, writes := m.store(t)
			j := mustOpen(t, s, nil)
			turnOff(t, s, m)
			// What is too long comes first, and does not reach the store.
			if err := write(j, mixed(maxBody+1, 1)); err != api.ErrLong {
				t.Fatalf("error %d, not %d", err, api.ErrLong)
			}
			if err := write(j, mixed(maxFirst+1, 1)); err != api.ErrFull {
				t.Fatalf("error %d, not %d", err, api.ErrFull)
			}
			if err := write(j, body); err != api.ErrLost {
				t.Fatalf("error %d, not %d", err, api.ErrLost)
			}
			mustBeLost(t, j)
			mustHave(t, j, f)
			s.Power()
			mustBeLost(t, j)
			mustHave(t, j, f)
			mustBe(t, s, m, writes+1)
			j = mustOpen(t, s, nil)
			mustHave(t, j, f)
			mustAdd(t, j, body, api.OK)
		}
	}
}

// mustBeLost fails the test if a call is not rejected because the power failed once.
func mustBeLost(t *testing.T, j *journal.Journal) {
	t.Helper()
	long := make([]byte, maxBody+1)
	for _, body := range [][]byte{nil, long[:0], long[:1], long[:100], long[:maxFirst+1], long} {
		mustAdd(t, j, body, api.ErrLost)
		mustRewrite(t, j, body, api.ErrLost)
	}
}

func TestErrorsOfBodiesLeaveAJournalUsable(t *testing.T) {
	m := image{}.with(0, 6, []byte("s"))
	f := found{0, 6, [][]byte{[]byte("s")}, 1}
	s, _ := m.store(t)
	j := mustOpen(t, s, nil)
	turnOff(t, s, m)
	mustAdd(t, j, mixed(maxBody+1, 1), api.ErrLong)
	mustAdd(t, j, mixed(510*room+1, 1), api.ErrFull)
	mustRewrite(t, j, mixed(maxBody+1, 1), api.ErrLong)
	mustRewrite(t, j, mixed(maxFirst+1, 1), api.ErrFull)
	s.Power()
	f, _ = f.adding([]byte("r"))
	mustAdd(t, j, []byte("r"), api.OK)
	mustHave(t, j, f)
	mustRewrite(t, j, []byte("t"), api.OK)
	mustHave(t, j, found{area, 7, [][]byte{[]byte("t")}, 1})
}

func TestReadingNeedsNoPower(t *testing.T) {
	m := image{}.with(area, 6, mixed(100, 1), []byte("a"), []byte("b"))
	f := found{area, 6, [][]byte{mixed(100, 1), []byte("a"), []byte("b")}, 4}
	s, writes := m.store(t)
	j := mustOpen(t, s, nil)
	turnOff(t, s, m)
	mustHave(t, j, f)
	s.Power()
	mustHave(t, j, f)
	mustAdd(t, j, nil, api.OK)
	mustBe(t, s, m.after([]change{{area + 5, blocksOf(nil)}}), writes+2)
}

func TestNilAndZeroJournals(t *testing.T) {
	mustBeNone(t, nil)
	mustBeNone(t, &journal.Journal{})
	mustBeNone(t, new(journal.Journal))
	var zero journal.Journal
	mustBeNone(t, &zero)
	mustBeNone(t, &zero)
}
