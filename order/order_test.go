package order_test

import (
	"math"
	"slices"
	"testing"

	"interregnum/api"
	"interregnum/order"
)

// waits makes a job without a gang that waits.
func waits(prio, seq int) api.Job {
	return api.Job{Task: api.Task{Name: "t", Queue: "q", Prio: prio}, Seq: seq}
}

// in makes the job of a gang that waits.
func in(gang string, size, prio, seq int) api.Job {
	j := waits(prio, seq)
	j.Task.Gang, j.Task.Size = gang, size
	return j
}

// bound makes a job that is bound to a machine.
func bound(j api.Job) api.Job {
	j.Node, j.Bound = "n", 1
	return j
}

// unit makes the indices of a unit.
func unit(indices ...int) []int {
	return indices
}

func mustUnite(t *testing.T, jobs []api.Job, want ...[]int) {
	t.Helper()
	if units := order.Units(jobs); !slices.EqualFunc(units, want, slices.Equal[[]int]) {
		t.Errorf("Units(%v) = %v, not %v", jobs, units, want)
	}
}

// mustLead asks that a is tried before b, and b not before a.
func mustLead(t *testing.T, a, b api.Job) {
	t.Helper()
	if forth, back := order.Ahead(a, b), order.Ahead(b, a); !forth || back {
		t.Errorf("Ahead of %v and %v: %t, and %t the other way round", a, b, forth, back)
	}
}

// mustTie asks that neither of two jobs is tried before the other one.
func mustTie(t *testing.T, a, b api.Job) {
	t.Helper()
	if forth, back := order.Ahead(a, b), order.Ahead(b, a); forth || back {
		t.Errorf("Ahead of %v and %v: %t, and %t the other way round", a, b, forth, back)
	}
}

func TestExamplesOfTheChapter(t *testing.T) {
	mustUnite(t, []api.Job{waits(1, 1), waits(2, 2), in("g", 2, 2, 3), in("g", 2, 2, 4)}, unit(1), unit(2, 3), unit(0))
	mustUnite(t, []api.Job{in("g", 2, 1, 1)})
	mustUnite(t, []api.Job{bound(in("g", 2, 1, 1)), in("g", 2, 1, 2)}, unit(1))
	mustUnite(t, []api.Job{in("g", 2, 1, 1), bound(in("g", 2, 1, 2))}, unit(0))
}

func TestExampleOfTheWhole(t *testing.T) {
	both := []api.Job{in("g", 2, 1, 1), in("g", 2, 1, 2)}
	mustUnite(t, both[:1])
	mustUnite(t, both, unit(0, 1))
}

func TestTheGreaterPrioIsAhead(t *testing.T) {
	prios := []int{math.MinInt, -1, 0, 1, 2, api.MaxPrio, api.MaxPrio + 1, math.MaxInt}
	for i, less := range prios {
		for _, greater := range prios[i+1:] {
			for _, seqs := range [][2]int{{1, 2}, {2, 1}, {3, 3}, {math.MinInt, math.MaxInt}, {math.MaxInt, math.MinInt}} {
				mustLead(t, waits(greater, seqs[0]), waits(less, seqs[1]))
			}
		}
	}
}

func TestOfOnePrioTheLesserSeqIsAhead(t *testing.T) {
	seqs := []int{math.MinInt, -1, 0, 1, 2, api.MaxClock, math.MaxInt}
	for _, prio := range []int{math.MinInt, -1, 0, 1, api.MaxPrio, math.MaxInt} {
		for i, less := range seqs {
			for _, greater := range seqs[i+1:] {
				mustLead(t, waits(prio, less), waits(prio, greater))
			}
			mustTie(t, waits(prio, less), waits(prio, less))
		}
	}
}

func TestNothingElsePutsAJobAhead(t *testing.T) {
	plain := waits(3, 7)
	full := bound(in("g", 2, 3, 7))
	full.Bound = 9
	full.Task.Name, full.Task.Queue, full.Task.Apart = "z", "a", "x"
	full.Task.Need, full.Task.Wants = api.Res{1, 2, 3}, []api.Label{{Key: "k", Value: "v"}}
	mustTie(t, plain, plain)
	mustTie(t, full, full)
	mustTie(t, plain, full)
	mustTie(t, api.Job{}, api.Job{Node: "n", Bound: -1})
	// Whether they wait does not matter either.
	later, earlier := full, full
	later.Seq, earlier.Seq = 8, 6
	mustLead(t, plain, later)
	mustLead(t, earlier, plain)
	mustLead(t, bound(waits(4, 9)), plain)
	mustLead(t, plain, bound(waits(2, 1)))
}

func TestUnitsOfJobsWithoutAGang(t *testing.T) {
	mustUnite(t, nil)
	mustUnite(t, []api.Job{waits(0, 1)}, unit(0))
	mustUnite(t, []api.Job{waits(0, 1), waits(0, 2), waits(0, 3)}, unit(0), unit(1), unit(2))
	mustUnite(t, []api.Job{waits(0, 3), waits(0, 1), waits(0, 2)}, unit(1), unit(2), unit(0))
	mustUnite(t, []api.Job{waits(0, 1), waits(1, 2), waits(2, 3)}, unit(2), unit(1), unit(0))
	mustUnite(t, []api.Job{waits(1, 9), waits(9, 8), waits(1, 7), waits(9, 6), waits(5, 5)}, unit(3), unit(1), unit(4), unit(2), unit(0))
	mustUnite(t, []api.Job{waits(-1, 1), waits(math.MinInt, 1), waits(math.MaxInt, 1)}, unit(2), unit(0), unit(1))
	mustUnite(t, []api.Job{waits(1, math.MaxInt), waits(1, math.MinInt), waits(1, 0)}, unit(1), unit(2), unit(0))
}

func TestASizeWithoutAGangDoesNotMatter(t *testing.T) {
	for _, size := range []int{math.MinInt, -1, 0, 1, 2, api.MaxGang, math.MaxInt} {
		mustUnite(t, []api.Job{in("", size, 1, 2), in("", size, 1, 1)}, unit(1), unit(0))
	}
}

func TestBoundJobsAreInNoUnit(t *testing.T) {
	mustUnite(t, []api.Job{bound(waits(9, 1))})
	mustUnite(t, []api.Job{bound(waits(9, 1)), waits(1, 2), bound(waits(5, 3)), waits(2, 4), bound(waits(0, 5))}, unit(3), unit(1))
	for _, node := range []string{" ", "-", "\x00", "no machine at all is called so"} {
		j := waits(9, 1)
		j.Node = node
		mustUnite(t, []api.Job{j, waits(1, 2)}, unit(1))
	}
	// It is not the number of times it was bound that tells it.
	again := waits(9, 1)
	again.Bound = 3
	mustUnite(t, []api.Job{again, waits(1, 2)}, unit(0), unit(1))
	never := bound(waits(9, 1))
	never.Bound = 0
	mustUnite(t, []api.Job{never, waits(1, 2)}, unit(1))
}

func TestJobsOfOnePrioAndSeqKeepTheirOrder(t *testing.T) {
	var same []api.Job
	var want [][]int
	for i := range 100 {
		same = append(same, waits(3, 3))
		want = append(want, unit(i))
	}
	mustUnite(t, same, want...)
	mustUnite(t, []api.Job{waits(1, 2), waits(2, 2), waits(1, 2), waits(2, 2), waits(1, 1), waits(1, 2)}, unit(1), unit(3), unit(4), unit(0), unit(2), unit(5))
	mustUnite(t, []api.Job{in("h", 2, 1, 1), waits(1, 1), in("g", 2, 1, 1), in("h", 2, 1, 1), in("g", 2, 1, 1), waits(1, 1)}, unit(0, 3), unit(1), unit(2, 4), unit(5))
}

func TestJobsAreToldApartByTheirPlaces(t *testing.T) {
	// The same task several times is as many jobs.
	mustUnite(t, []api.Job{waits(1, 1), bound(waits(1, 1)), waits(1, 1)}, unit(0), unit(2))
	mustUnite(t, []api.Job{in("g", 3, 1, 1), in("g", 3, 1, 1), in("g", 3, 1, 1)}, unit(0, 1, 2))
}
