package rounds_test

import (
	"fmt"
	"math"
	"math/rand"
	"slices"
	"testing"

	"lockkeeper/api"
	"lockkeeper/disk"
	"lockkeeper/machine"
	"lockkeeper/ops"
	"lockkeeper/rounds"
	"lockkeeper/store"
)

func op(kind, id int) ops.Op { return ops.Op{Kind: kind, Id: id} }

func start(t *testing.T, n int, lists ...[]ops.Op) *machine.Machine {
	t.Helper()
	d, _ := disk.New(35)
	d, _ = store.Set(d, api.Page{Id: 3, Version: 2, Body: "a"})
	m, err := machine.New(d, n, lists)
	if err != api.OK {
		t.Fatal(err)
	}
	return m
}

// state is all that a machine tells.
func state(m *machine.Machine, workers int) string {
	s := fmt.Sprint(m.Clock(), m.Flight(), m.History(), m.Hall(), m.Pool())
	for who := range workers {
		s += fmt.Sprint(" ", m.State(who), m.Left(who))
	}
	return s
}

func TestP20_1_Bound(t *testing.T) {
	list := make([]ops.Op, 60)
	for _, c := range []struct {
		work [][]ops.Op
		want int
	}{
		{nil, 1}, {[][]ops.Op{}, 1}, {[][]ops.Op{nil, {}}, 1}, {[][]ops.Op{{op(1, 1)}}, 11}, {[][]ops.Op{{op(1, 1)}, {op(9, 9), op(1, 1)}}, 31}, {[][]ops.Op{list, list, list, list}, 2401},
	} {
		if got := rounds.Bound(c.work); got != c.want {
			t.Errorf("Bound of %d lists: %d", len(c.work), got)
		}
	}
}

func TestP20_1_Round(t *testing.T) {
	m := start(t, 2, []ops.Op{op(ops.Read, 3)}, []ops.Op{op(ops.New, 1)})
	for i, want := range [][2]int{{1, 1}, {2, 2}, {3, 3}, {5, 5}, {6, 6}, {0, 0}} {
		if !rounds.Round(m, 2, false) || m.State(0) != want[0] || m.State(1) != want[1] || m.Flight() != 0 {
			t.Errorf("behind the round %d: %s", i+1, state(m, 2))
		}
	}
	if m.Clock() != 12 || rounds.Round(m, 2, false) || rounds.Round(m, 2, true) || m.Clock() != 16 {
		t.Errorf("a round of nothing: %s", state(m, 2))
	}
}

func TestP20_1_RoundOfSome(t *testing.T) {
	for _, workers := range []int{-1, 0, 1, 2, 3, 4, 5, math.MaxInt, math.MinInt} {
		m := start(t, 2, []ops.Op{op(ops.New, 1)}, []ops.Op{op(ops.New, 2)}, nil)
		got := rounds.Round(m, workers, false)
		some := min(max(workers, 0), 3)
		if got != (workers > 0) || m.Clock() != some || m.State(0) != min(some, 1) || m.State(1) != min(max(some-1, 0), 1) {
			t.Errorf("a round of %d: %t %s", workers, got, state(m, 3))
		}
	}
}

func TestP20_1_RoundFinishes(t *testing.T) {
	m := start(t, 2, []ops.Op{op(ops.Read, 3)}, []ops.Op{op(ops.Read, 3)})
	for who := range 2 {
		for range 4 {
			m.Step(who)
		}
	}
	// No step does anything, but two are in flight, and the first one fails.
	for i, want := range []struct {
		fault         bool
		state, flight int
	}{{true, 4, 2}, {false, 5, 1}} {
		if got := rounds.Round(m, 0, want.fault); !got || m.State(1) != want.state || m.Flight() != want.flight || m.State(0) != 4 {
			t.Errorf("the round %d: %t %s", i+1, got, state(m, 2))
		}
	}
	if !rounds.Round(m, 0, false) || m.State(0) != 5 || rounds.Round(m, 0, false) {
		t.Errorf("behind three rounds: %s", state(m, 2))
	}
}

// plain does rounds as the chapter words them.
func plain(m *machine.Machine, workers int, faults []bool, most int) int {
	n := 0
	for ; n < most; n++ {
		left := 0
		for who := range workers {
			left += m.Left(who)
		}
		if left == 0 {
			break
		}
		for who := range workers {
			m.Step(who)
		}
		m.Pump()
		if m.Flight() > 0 {
			m.Finish(0, len(faults) > 0 && faults[n%len(faults)])
		}
	}
	return n
}

func anyWork(r *rand.Rand, workers, most int) [][]ops.Op {
	lists := make([][]ops.Op, workers)
	for i := range lists {
		for range r.Intn(most) {
			lists[i] = append(lists[i], ops.Op{Kind: r.Intn(6), Id: r.Intn(5), Body: "b"})
		}
	}
	return lists
}

func anyFaults(r *rand.Rand) []bool {
	faults := make([]bool, r.Intn(6))
	for i := range faults {
		faults[i] = r.Intn(3) > 0
	}
	return faults
}

func TestP20_1_Run(t *testing.T) {
	r := rand.New(rand.NewSource(1))
	for range 150 {
		workers := 1 + r.Intn(4)
		work := anyWork(r, workers, 8)
		frames := 1 + r.Intn(3)
		a, b := start(t, frames, work...), start(t, frames, work...)
		for range 4 {
			some, faults, most := r.Intn(workers+1), anyFaults(r), r.Intn(20)-1
			was := slices.Clone(faults)
			if got, want := rounds.Run(a, some, faults, most), plain(b, some, faults, most); got != want || state(a, workers) != state(b, workers) {
				t.Fatalf("Run of %d workers, %t, %d: %d, not %d", some, faults, most, got, want)
			}
			if !slices.Equal(was, faults) {
				t.Fatalf("what was handed in was changed: %t", faults)
			}
		}
	}
}

func TestP20_1_RunEnds(t *testing.T) {
	m := start(t, 1, []ops.Op{op(ops.New, 1)}, []ops.Op{op(ops.New, 2)})
	for most, want := range map[int]int{-1: 0, 0: 0, math.MinInt: 0} {
		if got := rounds.Run(m, 2, nil, most); got != want || m.Clock() != 0 {
			t.Errorf("Run of at most %d: %d", most, got)
		}
	}
	if got := rounds.Run(m, 0, nil, 5); got != 0 {
		t.Errorf("Run of no workers: %d", got)
	}
	if got := rounds.Run(m, -3, nil, 5); got != 0 {
		t.Errorf("Run of no workers: %d", got)
	}
	if got := rounds.Run(m, 1, nil, 3); got != 3 || m.Clock() != 3 || m.Left(0) != 1 {
		t.Errorf("Run of at most 3: %d", got)
	}
	if got := rounds.Run(m, 1, nil, math.MaxInt); got != 3 || m.Left(0) != 0 || m.Left(1) != 1 || m.Clock() != 6 {
		t.Errorf("Run of one worker: %d", got)
	}
	if got := rounds.Run(m, math.MaxInt, nil, math.MaxInt); got != 6 || m.Left(1) != 0 || m.Clock() != 18 {
		t.Errorf("Run of all workers: %d %d", got, m.Clock())
	}
	if got := rounds.Run(m, 2, nil, 9); got != 0 || m.Clock() != 18 {
		t.Errorf("Run of what has ended: %d", got)
	}
}

func TestP20_1_RunFaults(t *testing.T) {
	for _, c := range []struct {
		faults []bool
		rounds int
		e      api.Errno
	}{
		{nil, 6, api.OK}, {[]bool{false}, 6, api.OK}, {[]bool{true}, 7, api.ErrFailed}, {[]bool{true, true, true, false}, 6, api.OK},
		{[]bool{false, false, false, true, true}, 8, api.OK}, {[]bool{false, true, true, true}, 7, api.OK}, {[]bool{true, false}, 6, api.OK}, {[]bool{false, true}, 7, api.OK},
	} {
		m := start(t, 1, []ops.Op{op(ops.Read, 3)})
		if got := rounds.Run(m, 1, c.faults, 99); got != c.rounds || m.History()[0].Result.E != c.e {
			t.Errorf("with the faults %t: %d rounds, %v", c.faults, got, m.History())
		}
	}
}

func TestP20_2_AllEndsWithinTheBound(t *testing.T) {
	r := rand.New(rand.NewSource(2))
	for n := range 300 {
		workers := 1 + r.Intn(4)
		work := anyWork(r, workers, 12)
		faults := anyFaults(r)
		if n%3 == 0 {
			faults = []bool{true}
		}
		m := start(t, 1+r.Intn(3), work...)
		bound := rounds.Bound(work)
		if n%2 == 0 {
			ahead := r.Intn(200)
			for range ahead {
				switch r.Intn(4) {
				case 0:
					m.Pump()
				case 1:
					m.Finish(r.Intn(4), r.Intn(2) == 0)
				default:
					m.Step(r.Intn(workers))
				}
			}
			bound += ahead
		}
		rounds.Run(m, workers, faults, bound)
		for who := range workers {
			if m.Left(who) > 0 {
				t.Fatalf("behind %d rounds the worker %d has %d left", bound, who, m.Left(who))
			}
		}
	}
}

func TestP20_2_Example(t *testing.T) {
	m := start(t, 1, []ops.Op{op(ops.New, 1)})
	if got := rounds.Run(m, 1, nil, 100); got != 6 {
		t.Errorf("%d rounds", got)
	}
}
