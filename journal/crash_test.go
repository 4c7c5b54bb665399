package journal_test

import (
	"testing"

	"interregnum/api"
	"interregnum/block"
	"interregnum/journal"
)

// damaged are stores, each with what Open finds there: new parts of them, old ones and broken ones in both areas.
func damaged() []image {
	long := [][]byte{mixed(100, 1), mixed(200, 2), nil, []byte("last")}
	return []image{
		image{}.with(0, 1, []byte("s")),
		image{}.with(0, 1, long...),
		image{}.with(area, 2, []byte("s")).with(0, 1, long...),
		image{}.with(0, 3, long...).with(area, 2, mixed(300, 3), []byte("old")),
		image{}.with(0, 9, long...).put(area, mixed(5*blockLen, 4)).put(2*area-1, []byte{1}),
		image{}.with(area, 300, long...).put(area+9, blocksOf(mixed(170, 5))[:2*blockLen]).put(2*area-1, []byte{1}),
		image{}.with(area, 4, []byte("s")).put(1, blocksOf([]byte("a snapshot without a generation"))).put(4, mixed(128, 6)),
	}
}

// call is one that writes: it has to return this error.
type call func(t *testing.T, j *journal.Journal, want api.Errno)

// mustSurvive lets the power fail at each write of a call on the store m, of which list are the writes, with each part of the block.
// What was there before must be found then, or what is there after the call if it was performed to its last byte.
func mustSurvive(t *testing.T, m image, list []change, do call, before, after found) {
	t.Helper()
	for n := range list {
		for _, part := range parts() {
			s, writes := m.store(t)
			j := mustOpen(t, s, nil)
			s.Arm(n, part)
			do(t, j, api.ErrLost)
			broken := m.cutOff(list, n, part)
			mustBe(t, s, broken, writes+n+1)
			mustHave(t, j, before)
			s.Power()
			mustBeLost(t, j)
			mustHave(t, j, before)
			want := before
			if n == len(list)-1 && part >= blockLen {
				want = after
			}
			mustRecover(t, s, want)
			// An Open that is interrupted is tried once a write: it is the same for all parts.
			if part == 32 {
				mustOpenAgain(t, broken, want)
			}
		}
	}
	s, writes := m.store(t)
	j := mustOpen(t, s, nil)
	s.Arm(len(list), 0)
	do(t, j, api.OK)
	mustBe(t, s, m.after(list), writes+len(list))
	mustHave(t, j, after)
	s.Power()
	mustRecover(t, s, after)
}

// mustRecover fails the test if the store is not opened with this, in any number of ways to use it then.
func mustRecover(t *testing.T, s *block.Store, f found) {
	t.Helper()
	broken, writes := imageOf(s), s.Writes()
	list := broken.erasing(f.at+1+f.used, area-1-f.used)
	mustHave(t, mustOpen(t, s, []byte("not needed")), f)
	whole := broken.after(list)
	mustBe(t, s, whole, writes+len(list))
	j := mustOpen(t, s, []byte("not needed"))
	mustHave(t, j, f)
	mustBe(t, s, whole, writes+len(list))
	f, added := f.adding([]byte("r"))
	mustAdd(t, j, []byte("r"), api.OK)
	mustHave(t, j, f)
	whole = whole.after(added)
	f, restarted := whole.rewriting(f, []byte("t"))
	mustRewrite(t, j, []byte("t"), api.OK)
	mustHave(t, j, f)
	mustBe(t, s, whole.after(restarted), writes+len(list)+1+len(restarted))
	mustHave(t, mustOpen(t, s, nil), f)
}

// mustOpenAgain lets the power fail at each write of Open, and then at the first ones of each further Open, until one is not interrupted.
func mustOpenAgain(t *testing.T, m image, f found) {
	t.Helper()
	list := m.erasing(f.at+1+f.used, area-1-f.used)
	for n := range list {
		for _, part := range []int{0, 33, 64} {
			s, writes := m.store(t)
			s.Arm(n, part)
			mustNotOpen(t, s, []byte("not needed"), api.ErrLost)
			mustBe(t, s, m.cutOff(list, n, part), writes+n+1)
			mustNotOpen(t, s, []byte("not needed"), api.ErrLost)
			mustBe(t, s, m.cutOff(list, n, part), writes+n+1)
			mustOpenAtLast(t, s, f)
		}
	}
}

// mustOpenAtLast interrupts Open again and again: in its first write, and, so that it comes to an end, behind it.
func mustOpenAtLast(t *testing.T, s *block.Store, f found) {
	t.Helper()
	for _, part := range []int{0, 1, 63, 64} {
		for n := range 2 {
			m := imageOf(s)
			s.Power()
			list := m.erasing(f.at+1+f.used, area-1-f.used)
			if len(list) <= n {
				continue
			}
			s.Arm(n, part)
			mustNotOpen(t, s, nil, api.ErrLost)
			mustBe(t, s, m.cutOff(list, n, part), s.Writes())
		}
	}
	s.Power()
	j := mustOpen(t, s, nil)
	mustHave(t, j, f)
	f, _ = f.adding([]byte("r"))
	mustAdd(t, j, []byte("r"), api.OK)
	mustHave(t, mustOpen(t, s, nil), f)
}

func TestPowerFailsInAdd(t *testing.T) {
	for _, m := range damaged() {
		f, list := m.opening(nil)
		m = m.after(list)
		for _, body := range [][]byte{nil, mixed(59, 7), blocksOf([]byte("a"), []byte("b"))} {
			after, list := f.adding(body)
			mustSurvive(t, m, list, func(t *testing.T, j *journal.Journal, want api.Errno) {
				t.Helper()
				mustAdd(t, j, body, want)
			}, f, after)
		}
	}
}

func TestPowerFailsInRewrite(t *testing.T) {
	for _, m := range damaged() {
		f, list := m.opening(nil)
		m = m.after(list)
		for _, snapshot := range [][]byte{nil, mixed(150, 7)} {
			after, list := m.rewriting(f, snapshot)
			mustSurvive(t, m, list, func(t *testing.T, j *journal.Journal, want api.Errno) {
				t.Helper()
				mustRewrite(t, j, snapshot, want)
			}, f, after)
		}
	}
}

func TestPowerFailsInOpen(t *testing.T) {
	for _, m := range damaged() {
		f, _ := m.opening(nil)
		for _, broken := range []image{
			m,
			m.after([]change{{f.at + 1 + f.used, blocksOf(mixed(300, 9))[:5*blockLen]}}),
			m.after([]change{{f.at + 1 + f.used, make([]byte, blockLen)}, {f.at + 2 + f.used, blocksOf([]byte("x"), mixed(80, 9))}}),
			m.after([]change{{f.at + area - 1, mixed(blockLen, 3)}}),
		} {
			mustOpenAgain(t, broken, f)
			s, _ := broken.store(t)
			mustRecover(t, s, f)
		}
	}
}

// TestPowerFailsInOpenOfNewStore interrupts the restart of an area, up to three times, each time with another snapshot.
func TestPowerFailsInOpenOfNewStore(t *testing.T) {
	first := []byte("first")
	for _, m := range []image{image{}, image{}.put(0, head(5)), image{}.put(0, mixed(3*blockLen, 1)).put(area, mixed(2*blockLen, 1)), image{}.put(1, blocksOf(mixed(90, 2)))} {
		_, list := m.opening(first)
		for n := range list {
			for _, part := range parts() {
				s, writes := m.store(t)
				s.Arm(n, part)
				mustNotOpen(t, s, first, api.ErrLost)
				broken := m.cutOff(list, n, part)
				mustBe(t, s, broken, writes+n+1)
				s.Power()
				mustBeginAtLast(t, s, broken)
			}
		}
	}
}

// mustBeginAtLast interrupts Open of a store without a journal until the snapshot of one of the calls is that of the journal.
func mustBeginAtLast(t *testing.T, s *block.Store, m image) {
	t.Helper()
	for i, size := range []int{0, 130, 59, 58, 1, 200} {
		snapshot := mixed(size, uint32(i))
		f, list := m.opening(snapshot)
		if i < 5 && len(list) > 0 {
			n, part := (i*3)%len(list), []int{0, 64, 33, 63, 1}[i]
			s.Arm(n, part)
			mustNotOpen(t, s, snapshot, api.ErrLost)
			m = m.cutOff(list, n, part)
			mustBe(t, s, m, s.Writes())
			s.Power()
			continue
		}
		mustHave(t, mustOpen(t, s, snapshot), f)
		m = m.after(list)
		mustBe(t, s, m, s.Writes())
		f, _ = f.adding([]byte("r"))
		mustAdd(t, mustOpen(t, s, nil), []byte("r"), api.OK)
		mustHave(t, mustOpen(t, s, nil), f)
		return
	}
}

// TestPowerFailsAgainAndAgain runs calls without a pattern, of which each may be interrupted, beside what the document says.
func TestPowerFailsAgainAndAgain(t *testing.T) {
	for seed := range uint32(8) {
		m, s := image{}, block.New()
		var f found
		opened := []byte("s")
		var j *journal.Journal
		dice := mixed(4*300, seed)
		for k := 0; k+4 <= len(dice); k += 4 {
			kind, size, count, part := dice[k]%8, int(dice[k+1]), int(dice[k+2]%16), int(dice[k+3]%70)-2
			body := mixed(size, uint32(k))
			var next found
			var list []change
			switch {
			case j == nil || kind == 0:
				next, list = m.opening(opened)
			case kind < 6 && len(blocksOf(body))/blockLen <= area-1-f.used:
				next, list = f.adding(body)
			default:
				kind = 6
				next, list = m.rewriting(f, body)
			}
			s.Arm(count, part)
			want := api.OK
			if count < len(list) {
				want, m = api.ErrLost, m.cutOff(list, count, part)
			} else {
				f, m = next, m.after(list)
			}
			switch {
			case j == nil || kind == 0:
				var err api.Errno
				if j, err = journal.Open(s, opened); err != want || (j == nil) != (err != api.OK) {
					t.Fatalf("Open: journal %v, error %d, not %d", j != nil, err, want)
				}
			case kind == 6:
				mustRewrite(t, j, body, want)
			default:
				mustAdd(t, j, body, want)
			}
			s.Power()
			if j != nil {
				mustHave(t, j, f)
			}
			mustBe(t, s, m, s.Writes())
			if want == api.ErrLost {
				j = nil
			}
		}
	}
}
