package lanes_test

import (
	"fmt"
	"math"
	"math/rand"
	"slices"
	"testing"

	"lockkeeper/api"
	"lockkeeper/lanes"
)

// same holds two values against each other; fmt tells nil and empty lists alike.
func same(a, b any) bool { return fmt.Sprintf("%v", a) == fmt.Sprintf("%v", b) }

func clone(l lanes.Lanes) lanes.Lanes {
	l.List = slices.Clone(l.List)
	for i := range l.List {
		l.List[i].Costs = slices.Clone(l.List[i].Costs)
	}
	return l
}

func fresh(t *testing.T, weights ...int) lanes.Lanes {
	t.Helper()
	l, err := lanes.New(weights)
	if err != api.OK {
		t.Fatalf("New(%d): %d", weights, err)
	}
	return l
}

func push(t *testing.T, l lanes.Lanes, lane int, costs ...int) lanes.Lanes {
	t.Helper()
	for _, c := range costs {
		was := clone(l)
		got, err := lanes.Push(l, lane, c)
		want := clone(l)
		want.List[lane].Costs = append(want.List[lane].Costs, c)
		if err != api.OK || !same(got, want) {
			t.Fatalf("Push(%d, %d): %v %d", lane, c, got, err)
		}
		if !same(l, was) {
			t.Fatalf("what was handed in was changed: %v", l)
		}
		l = got
	}
	return l
}

func next(t *testing.T, l lanes.Lanes) (lanes.Lanes, int, int) {
	t.Helper()
	was := clone(l)
	got, lane, cost, ok := lanes.Next(l)
	if !ok {
		t.Fatalf("Next of %v: false", l)
	}
	if !same(l, was) {
		t.Fatalf("what was handed in was changed: %v", l)
	}
	if !lanes.Right(got) {
		t.Fatalf("Next of %v: %v is not right", l, got)
	}
	return got, lane, cost
}

func one(weight, deficit int, costs ...int) lanes.Lane {
	return lanes.Lane{Weight: weight, Deficit: deficit, Costs: costs}
}

func of(at int, given bool, l ...lanes.Lane) lanes.Lanes {
	return lanes.Lanes{List: l, At: at, Given: given}
}

func wrong() []lanes.Lanes {
	a := one(1, 0, 1)
	return []lanes.Lanes{
		{}, {Given: true}, of(0, false, a, a, a, a, a, a, a),
		of(-1, false, a), of(1, false, a), of(2, true, a, a), of(math.MinInt, false, a), of(math.MaxInt, false, a),
		of(0, false, one(0, 0, 1)), of(0, false, one(-1, 0, 1)), of(0, false, one(9, 0, 1)), of(0, false, a, one(9, 0)),
		of(0, false, one(1, -1, 1)), of(0, true, one(1, -1, 1)), of(0, false, one(1, 8, 1)), of(0, true, one(1, 40, 1)), of(0, true, a, one(1, 8, 1)), of(1, true, one(1, 8, 1), a),
		of(0, false, one(1, 0, 0)), of(0, false, one(1, 0, 9)), of(0, false, one(1, 0, 1, -1)), of(0, false, a, one(1, 0, 3, 8, 9)),
		of(0, false, one(1, 0, slices.Repeat([]int{1}, 201)...)),
	}
}

func TestP5_1_New(t *testing.T) {
	for _, w := range [][]int{{1}, {8}, {1, 2}, {8, 7, 6, 5, 4, 3}} {
		l := fresh(t, w...)
		var want lanes.Lanes
		for _, n := range w {
			want.List = append(want.List, one(n, 0))
		}
		if !same(l, want) || !lanes.Right(l) {
			t.Errorf("New(%d): %v", w, l)
		}
	}
	for _, w := range [][]int{nil, {}, {0}, {9}, {-1}, {1, 2, 0}, {1, 9}, {1, 1, 1, 1, 1, 1, 1}, {math.MaxInt}, {math.MinInt}} {
		if l, err := lanes.New(w); err != api.ErrArg || !same(l, lanes.Lanes{}) {
			t.Errorf("New(%d): %v %d", w, l, err)
		}
	}
}

func TestP5_1_Right(t *testing.T) {
	a := one(1, 7, 1, 8)
	for i, l := range []lanes.Lanes{
		of(0, false, a), of(0, true, a), of(5, false, a, a, a, a, a, a), of(5, true, a, a, a, a, a, one(1, 39)),
		of(0, true, one(8, 39, 8)), of(1, true, a, one(1, 8)), of(0, false, one(8, 7, slices.Repeat([]int{8}, 200)...)), of(0, true, one(1, 39)),
	} {
		if !lanes.Right(l) {
			t.Errorf("lanes %d are not right", i)
		}
	}
	for i, l := range wrong() {
		if lanes.Right(l) {
			t.Errorf("wrong lanes %d are right", i)
		}
	}
}

func TestP5_1_Push(t *testing.T) {
	l := push(t, fresh(t, 3, 1), 1, 8, 1, 4)
	l = push(t, l, 0, 2)
	a := push(t, l, 1, 5)
	push(t, l, 1, 6)
	if !slices.Equal(a.List[1].Costs, []int{8, 1, 4, 5}) {
		t.Errorf("a second Push turned the first one's: %v", a)
	}
	l = push(t, fresh(t, 1, 1), 1, slices.Repeat([]int{3}, 200)...)
	if got, err := lanes.Push(l, 1, 3); err != api.ErrFull || !same(got, l) {
		t.Errorf("the 201st: %d", err)
	}
	push(t, l, 0, 3)
	if _, err := lanes.Push(l, 1, 9); err != api.ErrArg {
		t.Errorf("a wrong one, behind 200: %d", err)
	}
}

func TestP5_1_PushRefuses(t *testing.T) {
	l := push(t, fresh(t, 1, 2), 0, 4)
	for _, c := range [][2]int{{-1, 1}, {2, 1}, {math.MaxInt, 1}, {math.MinInt, 1}, {0, 0}, {0, -1}, {0, 9}, {1, math.MaxInt}} {
		if got, err := lanes.Push(l, c[0], c[1]); err != api.ErrArg || !same(got, l) {
			t.Errorf("Push(%d, %d): %v %d", c[0], c[1], got, err)
		}
	}
	for i, l := range wrong() {
		if got, err := lanes.Push(l, 0, 1); err != api.ErrArg || !same(got, l) {
			t.Errorf("Push of wrong lanes %d: %v %d", i, got, err)
		}
	}
}

func TestP5_2_Nothing(t *testing.T) {
	for i, l := range append(wrong(), fresh(t, 1), fresh(t, 1, 2, 3), of(1, true, one(1, 3), one(2, 20))) {
		if got, lane, cost, ok := lanes.Next(l); ok || lane != 0 || cost != 0 || !same(got, l) {
			t.Errorf("Next of the lanes %d: %v %d %d %t", i, got, lane, cost, ok)
		}
	}
}

func TestP5_2_Example(t *testing.T) {
	l := fresh(t, 1, 2)
	for range 9 {
		l = push(t, push(t, l, 0, 4), 1, 4)
	}
	for n, want := range []int{0, 1, 1, 0, 1, 1, 0, 1, 1} {
		var lane, cost int
		l, lane, cost = next(t, l)
		if lane != want || cost != 4 {
			t.Errorf("the %d-th: %d %d", n, lane, cost)
		}
	}
}

func TestP5_2_Turns(t *testing.T) {
	for _, c := range []struct {
		l, want    lanes.Lanes
		lane, cost int
	}{
		{of(0, false, one(1, 0, 4, 1)), of(0, true, one(1, 0, 1)), 0, 4},
		{of(0, false, one(1, 7, 4, 1)), of(0, true, one(1, 7, 1)), 0, 4},
		{of(0, false, one(2, 0, 5)), of(0, true, one(2, 0)), 0, 5},
		{of(0, true, one(1, 5, 4, 1)), of(0, true, one(1, 1, 1)), 0, 4},
		{of(0, true, one(1, 3, 4, 1)), of(0, true, one(1, 3, 1)), 0, 4},
		{of(0, false, one(1, 0, 5), one(1, 0, 4)), of(1, true, one(1, 4, 5), one(1, 0)), 1, 4},
		{of(1, true, one(1, 2, 5), one(1, 3, 4)), of(0, true, one(1, 0), one(1, 3, 4)), 0, 5},
		{of(1, false, one(1, 0, 8), one(1, 7)), of(0, true, one(1, 0), one(1, 0)), 0, 8},
		{of(1, true, one(1, 0, 8), one(1, 39)), of(0, true, one(1, 0), one(1, 0)), 0, 8},
		{of(2, true, one(1, 6), one(1, 0, 1, 1), one(1, 0, 1)), of(1, true, one(1, 0), one(1, 3, 1), one(1, 0, 1)), 1, 1},
		{of(0, true, one(8, 39, 8, 8)), of(0, true, one(8, 31, 8)), 0, 8},
	} {
		if got, lane, cost := next(t, c.l); !same(got, c.want) || lane != c.lane || cost != c.cost {
			t.Errorf("Next of %v: %v %d %d", c.l, got, lane, cost)
		}
	}
}

// plain goes through the turns as the chapter words them, on lanes of its own.
func plain(l *lanes.Lanes) (int, int) {
	for {
		lane := &l.List[l.At]
		over := false
		if len(lane.Costs) == 0 {
			lane.Deficit = 0
			over = true
		} else {
			if !l.Given {
				lane.Deficit += 4 * lane.Weight
				l.Given = true
			}
			if cost := lane.Costs[0]; cost <= lane.Deficit {
				lane.Deficit -= cost
				lane.Costs = lane.Costs[1:]
				if len(lane.Costs) == 0 {
					lane.Deficit = 0
				}
				return l.At, cost
			}
			over = true
		}
		if over {
			l.At++
			if l.At == len(l.List) {
				l.At = 0
			}
			l.Given = false
		}
	}
}

func TestP5_2_AllAlong(t *testing.T) {
	r := rand.New(rand.NewSource(1))
	for range 200 {
		weights := make([]int, 1+r.Intn(6))
		for i := range weights {
			weights[i] = 1 + r.Intn(8)
		}
		l := fresh(t, weights...)
		wait := 0
		for range 150 {
			if wait == 0 || r.Intn(2) == 0 {
				l = push(t, l, r.Intn(len(weights)), 1+r.Intn(8))
				wait++
				continue
			}
			want := clone(l)
			wantLane, wantCost := plain(&want)
			got, lane, cost := next(t, l)
			if !same(got, want) || lane != wantLane || cost != wantCost {
				t.Fatalf("Next of %v: %v %d %d", l, got, lane, cost)
			}
			l = got
			wait--
		}
	}
}

// apart is how far two lanes may be apart, if the one of the weight a had more.
func apart(a, b int) int { return a*b*api.Quantum + (lanes.MaxCost-1)*a }

func TestP5_3_Shares(t *testing.T) {
	r := rand.New(rand.NewSource(2))
	for range 60 {
		weights := make([]int, 2+r.Intn(5))
		for i := range weights {
			weights[i] = 1 + r.Intn(8)
		}
		l := fresh(t, weights...)
		served := make([]int, len(weights))
		cheap := r.Intn(3)
		for range 300 {
			for i := range weights {
				for len(l.List[i].Costs) < 2 {
					cost := 1 + r.Intn(8)
					if cheap == 1 && i == 0 {
						cost = 1
					}
					l = push(t, l, i, cost)
				}
			}
			var lane, cost int
			l, lane, cost = next(t, l)
			served[lane] += cost
			for i, a := range weights {
				for j, b := range weights {
					if far := served[i]*b - served[j]*a; far > apart(a, b) {
						t.Fatalf("weights %d: served %d", weights, served)
					}
				}
			}
		}
	}
}

func TestP5_3_Stretches(t *testing.T) {
	r := rand.New(rand.NewSource(3))
	for range 60 {
		a, b := 1+r.Intn(8), 1+r.Intn(8)
		l := fresh(t, a, b, 3)
		low, high := 0, 0
		far := 0
		for range 400 {
			for i := range 3 {
				if len(l.List[i].Costs) < 3 || r.Intn(30) == 0 {
					l = push(t, l, i, 1+r.Intn(8))
				}
			}
			got, lane, cost, ok := lanes.Next(l)
			if !ok {
				continue
			}
			l = got
			if len(l.List[0].Costs) == 0 || len(l.List[1].Costs) == 0 {
				far, low, high = 0, 0, 0
				continue
			}
			switch lane {
			case 0:
				far += cost * b
			case 1:
				far -= cost * a
			}
			low, high = min(low, far), max(high, far)
			if high-low > 3*(apart(a, b)+apart(b, a)) {
				t.Fatalf("weights %d, %d: %d apart over a stretch", a, b, high-low)
			}
		}
	}
}
