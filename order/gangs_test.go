package order_test

import (
	"math"
	"slices"
	"strconv"
	"strings"
	"testing"

	"interregnum/api"
)

func TestAGangNeedsAsManyJobsAsItsSize(t *testing.T) {
	for size := 2; size <= api.MaxGang; size++ {
		var jobs []api.Job
		var all []int
		for i := range size {
			mustUnite(t, jobs)
			jobs, all = append(jobs, in("g", size, 1, i+1)), append(all, i)
		}
		mustUnite(t, jobs, all)
		// More than are needed are together as well.
		for i := size; i < 2*size+1; i++ {
			jobs, all = append(jobs, in("g", size, 1, i+1)), append(all, i)
			mustUnite(t, jobs, all)
		}
	}
}

func TestBoundJobsOfAGangCount(t *testing.T) {
	for size := 2; size <= api.MaxGang; size++ {
		for here := range size + 2 {
			for _, boundFirst := range []bool{true, false} {
				jobs := []api.Job{in("g", size, 1, 50)}
				for i := range here {
					jobs = append(jobs, bound(in("g", size, 1, i+1)))
				}
				at := 0
				if boundFirst {
					slices.Reverse(jobs)
					at = here
				}
				if here+1 >= size {
					mustUnite(t, jobs, unit(at))
				} else {
					mustUnite(t, jobs)
				}
			}
		}
	}
	two := []api.Job{bound(in("g", 4, 1, 1)), in("g", 4, 1, 2), bound(in("g", 4, 1, 3)), in("g", 4, 1, 4)}
	mustUnite(t, two, unit(1, 3))
	mustUnite(t, two[:3])
}

func TestAGangThatIsAllBoundIsInNoUnit(t *testing.T) {
	mustUnite(t, []api.Job{bound(in("g", 2, 1, 1)), bound(in("g", 2, 1, 2))})
	mustUnite(t, []api.Job{bound(in("g", 2, 9, 1)), waits(1, 2), bound(in("g", 2, 9, 3))}, unit(1))
}

func TestTheSizeIsThatOfTheWaitingJobTriedFirst(t *testing.T) {
	// By the greater Prio, be it first or last among the jobs.
	mustUnite(t, []api.Job{in("g", 2, 2, 2), in("g", 3, 1, 1)}, unit(0, 1))
	mustUnite(t, []api.Job{in("g", 3, 1, 1), in("g", 2, 2, 2)}, unit(1, 0))
	mustUnite(t, []api.Job{in("g", 3, 2, 2), in("g", 2, 1, 1)})
	mustUnite(t, []api.Job{in("g", 2, 1, 1), in("g", 3, 2, 2)})
	// Then by the lesser Seq.
	mustUnite(t, []api.Job{in("g", 2, 1, 1), in("g", 3, 1, 2)}, unit(0, 1))
	mustUnite(t, []api.Job{in("g", 3, 1, 2), in("g", 2, 1, 1)}, unit(1, 0))
	mustUnite(t, []api.Job{in("g", 3, 1, 1), in("g", 2, 1, 2)})
	mustUnite(t, []api.Job{in("g", 2, 1, 2), in("g", 3, 1, 1)})
	// Not that of most of them, nor the least or the greatest one.
	mustUnite(t, []api.Job{in("g", 4, 1, 1), in("g", 4, 1, 2), in("g", 3, 2, 3)}, unit(2, 0, 1))
	mustUnite(t, []api.Job{in("g", 2, 1, 1), in("g", 2, 1, 2), in("g", 4, 2, 3)})
	mustUnite(t, []api.Job{in("g", 4, 1, 3), in("g", 3, 1, 1), in("g", 2, 1, 2)}, unit(1, 2, 0))
	mustUnite(t, []api.Job{in("g", 2, 1, 3), in("g", 4, 1, 1), in("g", 3, 1, 2)})
}

func TestOfSeveralTriedFirstTheFirstAmongTheJobsNamesTheSize(t *testing.T) {
	mustUnite(t, []api.Job{in("g", 2, 1, 1), in("g", 3, 1, 1)}, unit(0, 1))
	mustUnite(t, []api.Job{in("g", 3, 1, 1), in("g", 2, 1, 1)})
	mustUnite(t, []api.Job{in("g", 9, 1, 2), in("g", 3, 1, 1), in("g", 4, 1, 1)}, unit(1, 2, 0))
	mustUnite(t, []api.Job{in("g", 1, 1, 2), in("g", 4, 1, 1), in("g", 3, 1, 1)})
	mustUnite(t, []api.Job{bound(in("g", 9, 1, 1)), in("g", 3, 1, 1), in("g", 4, 1, 1)}, unit(1, 2))
	mustUnite(t, []api.Job{bound(in("g", 2, 1, 1)), in("g", 4, 1, 1), in("g", 3, 1, 1)})
}

func TestTheSizesOfBoundJobsDoNotMatter(t *testing.T) {
	for _, size := range []int{math.MinInt, 0, 2, 3, 4, math.MaxInt} {
		first := bound(in("g", size, 9, 1))
		mustUnite(t, []api.Job{first, in("g", 2, 1, 2)}, unit(1))
		mustUnite(t, []api.Job{in("g", 2, 1, 2), first}, unit(0))
		mustUnite(t, []api.Job{first, in("g", 3, 1, 2)})
		mustUnite(t, []api.Job{in("g", 3, 1, 2), first, in("g", 4, 0, 3)}, unit(0, 2))
	}
}

func TestSizesThatAreNotValid(t *testing.T) {
	for _, size := range []int{math.MinInt, -1, 0, 1} {
		mustUnite(t, []api.Job{in("g", size, 1, 1)}, unit(0))
		mustUnite(t, []api.Job{in("g", size, 1, 2), in("g", 4, 1, 3), in("g", size, 1, 1)}, unit(2, 0, 1))
	}
	for _, size := range []int{api.MaxGang + 1, math.MaxInt} {
		mustUnite(t, []api.Job{in("g", size, 1, 1), in("g", size, 1, 2), in("g", 2, 1, 3), in("g", 2, 1, 4)})
	}
	five := in("g", api.MaxGang+1, 1, 1)
	mustUnite(t, []api.Job{five, five, five, five, bound(five)}, unit(0, 1, 2, 3))
}

func TestTheJobsOfAGangAreInTheOrderInWhichTheyAreTried(t *testing.T) {
	mustUnite(t, []api.Job{in("g", 2, 1, 1), in("g", 2, 1, 2), in("g", 2, 2, 3), in("g", 2, 9, 4)}, unit(3, 2, 0, 1))
	mustUnite(t, []api.Job{in("g", 2, 5, 4), in("g", 2, 5, 3), in("g", 2, 5, 2), in("g", 2, 5, 1)}, unit(3, 2, 1, 0))
	mustUnite(t, []api.Job{in("g", 2, 5, 4), in("g", 2, 6, 4), in("g", 2, 5, 4), in("g", 2, 6, 4), in("g", 2, 5, 3)}, unit(1, 3, 4, 0, 2))
}

func TestAGangIsTriedWhenItsFirstJobIs(t *testing.T) {
	// Its other jobs are tried with it, ahead of jobs that are ahead of them.
	jobs := []api.Job{waits(5, 1), in("g", 2, 9, 2), waits(8, 3), in("g", 2, 0, 4), waits(9, 5)}
	mustUnite(t, jobs, unit(1, 3), unit(4), unit(2), unit(0))
	mustUnite(t, []api.Job{in("g", 2, 1, 1), waits(1, 2), in("g", 2, 1, 3)}, unit(0, 2), unit(1))
	mustUnite(t, []api.Job{in("g", 2, 1, 3), waits(1, 2), in("g", 2, 1, 1)}, unit(2, 0), unit(1))
	mustUnite(t, []api.Job{waits(1, 2), in("g", 2, 1, 3), in("g", 2, 1, 4), waits(1, 5)}, unit(0), unit(1, 2), unit(3))
	// A bound job does not take its gang with it.
	mustUnite(t, []api.Job{bound(in("g", 2, 9, 1)), waits(5, 2), in("g", 2, 1, 3)}, unit(1), unit(2))
	// A unit that would be first is not there as long as its gang is not complete.
	mustUnite(t, []api.Job{in("g", 3, 9, 1), waits(5, 2), in("g", 3, 9, 3), waits(6, 4)}, unit(3), unit(1))
}

func TestGangsAreToldApartByTheirNames(t *testing.T) {
	mustUnite(t, []api.Job{in("g", 2, 1, 1), in("h", 2, 1, 2)})
	mustUnite(t, []api.Job{in("g", 2, 1, 1), in("h", 2, 1, 2), in("g", 2, 1, 3), in("h", 2, 1, 4)}, unit(0, 2), unit(1, 3))
	mustUnite(t, []api.Job{in("h", 2, 1, 1), in("g", 2, 2, 2), in("h", 2, 3, 3), in("g", 2, 0, 4)}, unit(2, 0), unit(1, 3))
	mustUnite(t, []api.Job{in("g", 3, 1, 1), in("h", 2, 1, 2), in("g", 3, 1, 3), in("h", 2, 1, 4)}, unit(1, 3))
	long := strings.Repeat("g", api.MaxName)
	for _, name := range []string{"G", "gg", " g", "g ", "g\x00", "\x00", " ", "\xff", long, long + "g"} {
		mustUnite(t, []api.Job{in("g", 2, 1, 1), in(name, 2, 1, 2)})
		mustUnite(t, []api.Job{in("g", 2, 1, 1), in(name, 2, 1, 2), in(name, 2, 1, 3)}, unit(1, 2))
		mustUnite(t, []api.Job{in(name, 2, 1, 1), bound(in(name, 2, 1, 2)), in("g", 2, 1, 3)}, unit(0))
	}
}

func TestJobsWithoutAGangAreNoGang(t *testing.T) {
	mustUnite(t, []api.Job{waits(1, 1), in("g", 2, 1, 2), waits(1, 3)}, unit(0), unit(2))
	mustUnite(t, []api.Job{in("", 2, 1, 1), in("", 2, 1, 2)}, unit(0), unit(1))
	mustUnite(t, []api.Job{bound(waits(1, 1)), in("g", 2, 1, 2)})
	// Nor are those that have the name of a gang otherwise.
	other := waits(1, 1)
	other.Task.Name, other.Task.Queue, other.Task.Apart = "g", "g", "g"
	mustUnite(t, []api.Job{other, in("g", 2, 1, 2), other}, unit(0), unit(2))
}

func TestManyGangs(t *testing.T) {
	var jobs []api.Job
	var want [][]int
	for i := range api.MaxTasks {
		jobs = append(jobs, in("g"+strconv.Itoa(i/2), 2, 1, i+1))
		if i%2 == 1 {
			want = append(want, unit(i-1, i))
		}
	}
	for range 100 {
		mustUnite(t, jobs, want...)
	}
	mustUnite(t, jobs[:len(jobs)-1], want[:len(want)-1]...)
}
