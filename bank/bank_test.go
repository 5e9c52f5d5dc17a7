package bank_test

import (
	"math"
	"math/rand"
	"slices"
	"testing"

	"lockkeeper/api"
	"lockkeeper/bank"
)

func of(l ...[2]int) []bank.Client {
	var clients []bank.Client
	for i, c := range l {
		clients = append(clients, bank.Client{Who: 10 * i, Claim: c[0], Held: c[1]})
	}
	return clients
}

func wrong() [][]bank.Client {
	return [][]bank.Client{
		make([]bank.Client, 9), of([2]int{1, 0}, [2]int{1, 0}, [2]int{1, 0}, [2]int{1, 0}, [2]int{1, 0}, [2]int{1, 0}, [2]int{1, 0}, [2]int{1, 0}, [2]int{1, 0}),
		{{Who: -1}}, {{Who: api.MaxNum + 1}}, {{Who: math.MinInt}}, {{Who: 1}, {Who: 1, Claim: 2}}, {{Who: 3}, {Who: 1}, {Who: 3}},
		of([2]int{-1, -1}), of([2]int{-1, 0}), of([2]int{101, 0}), of([2]int{math.MaxInt, 0}), of([2]int{5, -1}), of([2]int{5, 6}), of([2]int{0, 1}), of([2]int{5, 5}, [2]int{5, 6}), of([2]int{1, math.MinInt}),
	}
}

func TestP10_1_Right(t *testing.T) {
	for i, l := range [][]bank.Client{
		nil, {}, of([2]int{0, 0}), of([2]int{100, 100}), of([2]int{100, 0}, [2]int{5, 5}), {{Who: api.MaxNum}, {Who: 0}},
		of([2]int{1, 0}, [2]int{1, 0}, [2]int{1, 0}, [2]int{1, 0}, [2]int{1, 0}, [2]int{1, 0}, [2]int{1, 0}, [2]int{1, 0}),
	} {
		if !bank.Right(l) {
			t.Errorf("clients %d are not right", i)
		}
	}
	for i, l := range wrong() {
		if bank.Right(l) {
			t.Errorf("wrong clients %d are right", i)
		}
	}
}

func TestP10_1_Order(t *testing.T) {
	for _, c := range []struct {
		free int
		l    []bank.Client
		want []int
		safe bool
	}{
		{1, of([2]int{2, 1}, [2]int{3, 2}), []int{0, 1}, true},
		{0, of([2]int{2, 1}, [2]int{3, 2}), nil, false},
		{0, nil, nil, true},
		{1000, nil, nil, true},
		{0, of([2]int{0, 0}), []int{0}, true},
		{0, of([2]int{4, 4}, [2]int{9, 5}), []int{0, 1}, true},
		{1, of([2]int{9, 5}, [2]int{4, 3}), []int{1, 0}, true},
		{1, of([2]int{9, 4}, [2]int{4, 3}), []int{1}, false},
		{2, of([2]int{9, 3}, [2]int{5, 3}, [2]int{6, 1}, [2]int{3, 1}), []int{1, 2, 0, 3}, true},
		{2, of([2]int{11, 0}, [2]int{7, 4}, [2]int{2, 1}, [2]int{4, 0}, [2]int{8, 3}), []int{2, 1, 3, 4}, false},
		{99, of([2]int{100, 0}), nil, false},
		{100, of([2]int{100, 0}), []int{0}, true},
		{1, of([2]int{3, 0}, [2]int{1, 0}, [2]int{1, 1}, [2]int{2, 1}), []int{1, 2, 3, 0}, true},
	} {
		was := slices.Clone(c.l)
		order, safe := bank.Order(c.free, c.l)
		if !slices.Equal(order, c.want) || safe != c.safe || bank.Safe(c.free, c.l) != c.safe {
			t.Errorf("Order(%d, %v): %d %t", c.free, c.l, order, safe)
		}
		if !slices.Equal(c.l, was) {
			t.Errorf("what was handed in was changed: %v", c.l)
		}
	}
}

func TestP10_1_WrongOnes(t *testing.T) {
	refused := func(free int, l []bank.Client) {
		t.Helper()
		if order, safe := bank.Order(free, l); len(order) != 0 || safe || bank.Safe(free, l) {
			t.Errorf("Order(%d, %v): %d %t", free, l, order, safe)
		}
	}
	for _, l := range wrong() {
		refused(5, l)
		refused(1000, l)
	}
	for _, free := range []int{-1, 1001, math.MaxInt, math.MinInt} {
		refused(free, nil)
		refused(free, of([2]int{1, 1}))
	}
	if !bank.Safe(1000, of([2]int{1, 1})) || !bank.Safe(0, of([2]int{1, 1})) {
		t.Error("0 and 1,000 may be free")
	}
}

// anyOrder goes through all orders.
func anyOrder(free int, l []bank.Client) bool {
	if len(l) == 0 {
		return true
	}
	for i, c := range l {
		if c.Claim-c.Held <= free && anyOrder(free+c.Held, slices.Delete(slices.Clone(l), i, i+1)) {
			return true
		}
	}
	return false
}

func TestP10_2_ByWhateverOrder(t *testing.T) {
	r := rand.New(rand.NewSource(1))
	safe := 0
	for range 3000 {
		var l []bank.Client
		for who := range r.Intn(7) {
			claim := r.Intn(8)
			l = append(l, bank.Client{Who: who, Claim: claim, Held: r.Intn(claim + 1)})
		}
		free := r.Intn(5)
		want := anyOrder(free, l)
		if bank.Safe(free, l) != want {
			t.Fatalf("Safe(%d, %v): not %t", free, l, want)
		}
		if !want {
			continue
		}
		safe++
		for more := range 10 {
			if !bank.Safe(free+more, l) {
				t.Fatalf("Safe(%d, %v), but not with %d more", free, l, more)
			}
		}
	}
	if safe < 500 || safe > 2500 {
		t.Errorf("%d of 3000 were safe: they tell little", safe)
	}
}
