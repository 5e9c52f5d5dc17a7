package latch_test

import (
	"fmt"
	"math"
	"math/rand"
	"slices"
	"testing"

	"lockkeeper/api"
	"lockkeeper/latch"
)

// same holds two values against each other; fmt tells nil and empty lists alike.
func same(a, b any) bool { return fmt.Sprintf("%v", a) == fmt.Sprintf("%v", b) }

func clone(l latch.Latch) latch.Latch {
	return latch.Latch{Holders: slices.Clone(l.Holders), Exclusive: l.Exclusive, Queue: slices.Clone(l.Queue)}
}

func reads(who int) latch.Wait  { return latch.Wait{Who: who} }
func writes(who int) latch.Wait { return latch.Wait{Who: who, Exclusive: true} }

func shared(holders []int, queue ...latch.Wait) latch.Latch {
	return latch.Latch{Holders: holders, Queue: queue}
}

func alone(holder int, queue ...latch.Wait) latch.Latch {
	return latch.Latch{Holders: []int{holder}, Exclusive: true, Queue: queue}
}

// line is many who wait behind a writer, one more than n.
func line(n int) latch.Latch {
	l := alone(1000)
	for i := range n {
		l.Queue = append(l.Queue, latch.Wait{Who: i, Exclusive: i%3 == 0})
	}
	return l
}

func right() []latch.Latch {
	many := make([]int, 64)
	for i := range many {
		many[i] = 2 * i
	}
	return []latch.Latch{
		{}, shared([]int{0}), shared([]int{0, 1, api.MaxNum}), alone(0), alone(api.MaxNum), shared(many),
		alone(5, reads(4), writes(3), reads(6)), alone(5, writes(3)), shared([]int{5}, writes(3)), shared([]int{1, 5}, writes(3), reads(2), reads(api.MaxNum)), shared(many[:63], writes(1)),
		line(63),
	}
}

func wrong() []latch.Latch {
	many := make([]int, 65)
	for i := range many {
		many[i] = i
	}
	return []latch.Latch{
		{Exclusive: true}, {Holders: []int{1, 2}, Exclusive: true},
		shared([]int{2, 1}), shared([]int{1, 1}), shared([]int{-1}), shared([]int{api.MaxNum + 1}), shared([]int{math.MinInt, 1}),
		shared([]int{1}, reads(2)), shared(nil, reads(2)), shared(nil, writes(2)), {Exclusive: true, Queue: []latch.Wait{writes(1)}},
		shared([]int{1}, writes(1)), alone(1, writes(1)), alone(1, reads(2), writes(2)), alone(1, writes(2), writes(2)), shared([]int{1, 3}, writes(2), reads(3)),
		alone(1, writes(-1)), alone(1, writes(api.MaxNum+1)), alone(-1), alone(1, reads(2), reads(math.MaxInt)),
		shared(many), shared(many[:64], writes(100)), line(64),
	}
}

func ask(t *testing.T, l latch.Latch, who int, exclusive, want bool) latch.Latch {
	t.Helper()
	was := clone(l)
	got, in, err := latch.Ask(l, who, exclusive)
	if err != api.OK || in != want || !latch.Right(got) {
		t.Fatalf("Ask(%d, %t) of %v: %v %t %d", who, exclusive, was, got, in, err)
	}
	if !same(l, was) {
		t.Fatalf("what was handed in was changed: %v", l)
	}
	return got
}

func drop(t *testing.T, l latch.Latch, who int, want ...int) latch.Latch {
	t.Helper()
	was := clone(l)
	got, in, err := latch.Drop(l, who)
	if err != api.OK || !slices.Equal(in, want) || !latch.Right(got) {
		t.Fatalf("Drop(%d) of %v: %v %d %d", who, was, got, in, err)
	}
	if !same(l, was) {
		t.Fatalf("what was handed in was changed: %v", l)
	}
	return got
}

func is(t *testing.T, got, want latch.Latch) {
	t.Helper()
	if !same(got, want) {
		t.Errorf("%v, not %v", got, want)
	}
}

func TestP8_1_Right(t *testing.T) {
	for i, l := range right() {
		if !latch.Right(l) {
			t.Errorf("latch %d is not right", i)
		}
	}
	for i, l := range wrong() {
		if latch.Right(l) {
			t.Errorf("wrong latch %d is right", i)
		}
	}
}

func TestP8_1_Ask(t *testing.T) {
	l := ask(t, latch.Latch{}, 5, false, true)
	is(t, l, shared([]int{5}))
	l = ask(t, l, api.MaxNum, false, true)
	l = ask(t, l, 0, false, true)
	is(t, l, shared([]int{0, 5, api.MaxNum}))
	a := ask(t, l, 7, true, false)
	is(t, a, shared([]int{0, 5, api.MaxNum}, writes(7)))
	is(t, ask(t, a, 6, false, false), shared([]int{0, 5, api.MaxNum}, writes(7), reads(6)))
	is(t, ask(t, a, 8, true, false), shared([]int{0, 5, api.MaxNum}, writes(7), writes(8)))
	is(t, a, shared([]int{0, 5, api.MaxNum}, writes(7)))
	l = ask(t, latch.Latch{}, 3, true, true)
	is(t, l, alone(3))
	is(t, ask(t, l, 2, false, false), alone(3, reads(2)))
	is(t, ask(t, l, 2, true, false), alone(3, writes(2)))
}

func TestP8_1_AskRefuses(t *testing.T) {
	refused := func(l latch.Latch, who int, want api.Errno) {
		t.Helper()
		for _, exclusive := range []bool{false, true} {
			if got, in, err := latch.Ask(l, who, exclusive); err != want || in || !same(got, l) {
				t.Errorf("Ask(%d, %t) of %v: %v %t %d, not %d", who, exclusive, l, got, in, err, want)
			}
		}
	}
	for _, l := range wrong() {
		refused(l, 500, api.ErrArg)
	}
	for _, l := range []latch.Latch{{}, alone(3, writes(2)), line(63)} {
		for _, who := range []int{-1, api.MaxNum + 1, math.MaxInt, math.MinInt} {
			refused(l, who, api.ErrArg)
		}
	}
	for _, who := range []int{1, 4, 9, 8} {
		refused(shared([]int{1, 4}, writes(9), reads(8)), who, api.ErrThere)
	}
	refused(alone(1), 1, api.ErrThere)
	refused(line(63), 500, api.ErrFull)
	refused(line(63), 1000, api.ErrThere)
	refused(line(63), 62, api.ErrThere)
	is(t, ask(t, line(62), 62, false, false), line(63))
	many := make([]int, 63)
	for i := range many {
		many[i] = i
	}
	l := ask(t, shared(many), 63, false, true)
	refused(l, 64, api.ErrFull)
}

func TestP8_2_Drop(t *testing.T) {
	is(t, drop(t, shared([]int{1, 2, 3}), 2), shared([]int{1, 3}))
	is(t, drop(t, shared([]int{1}), 1), latch.Latch{})
	is(t, drop(t, alone(1), 1), latch.Latch{})
	is(t, drop(t, alone(1, writes(5), writes(4)), 1, 5), alone(5, writes(4)))
	is(t, drop(t, alone(1, reads(5), reads(4), reads(9), writes(3), reads(2)), 1, 5, 4, 9), shared([]int{4, 5, 9}, writes(3), reads(2)))
	is(t, drop(t, shared([]int{1, 2}, writes(3), reads(4)), 1), shared([]int{2}, writes(3), reads(4)))
	is(t, drop(t, shared([]int{2}, writes(3), reads(4)), 2, 3), alone(3, reads(4)))
	is(t, drop(t, alone(3, reads(4)), 4), alone(3))
	is(t, drop(t, shared([]int{1, 7}, writes(3), reads(8), reads(4), writes(5), reads(6)), 3, 8, 4), shared([]int{1, 4, 7, 8}, writes(5), reads(6)))
	is(t, drop(t, shared([]int{1}, writes(3), reads(4), writes(5)), 4), shared([]int{1}, writes(3), writes(5)))
	is(t, drop(t, alone(1, writes(3), reads(4)), 3), alone(1, reads(4)))
}

func TestP8_2_DropRefuses(t *testing.T) {
	refused := func(l latch.Latch, who int, want api.Errno) {
		t.Helper()
		if got, in, err := latch.Drop(l, who); err != want || len(in) != 0 || !same(got, l) {
			t.Errorf("Drop(%d) of %v: %v %d %d, not %d", who, l, got, in, err, want)
		}
	}
	for _, l := range wrong() {
		refused(l, 1, api.ErrArg)
		refused(l, 500, api.ErrArg)
	}
	for _, l := range right() {
		for _, who := range []int{7, 999, -1, math.MaxInt, math.MinInt} {
			if !slices.Contains(l.Holders, who) && !slices.ContainsFunc(l.Queue, func(w latch.Wait) bool { return w.Who == who }) {
				refused(l, who, api.ErrNone)
			}
		}
	}
}

func TestP8_2_Holds(t *testing.T) {
	for _, c := range []struct {
		l          latch.Latch
		who        int
		holds, one bool
	}{
		{latch.Latch{}, 1, false, false},
		{shared([]int{1, 2}, writes(3)), 1, true, false},
		{shared([]int{1, 2}, writes(3)), 2, true, false},
		{shared([]int{1, 2}, writes(3)), 3, false, false},
		{shared([]int{1}), 1, true, false},
		{alone(1, writes(3)), 1, true, true},
		{alone(1, writes(3)), 3, false, false},
		{alone(1, writes(3)), 4, false, false},
		{alone(1), -1, false, false},
	} {
		if holds, one := latch.Holds(c.l, c.who); holds != c.holds || one != c.one {
			t.Errorf("Holds(%v, %d): %t %t", c.l, c.who, holds, one)
		}
	}
	for i, l := range wrong() {
		for _, who := range []int{1, 2, 1000} {
			if holds, one := latch.Holds(l, who); holds || one {
				t.Errorf("Holds of wrong latch %d: %t %t", i, holds, one)
			}
		}
	}
}

func TestP8_3_NobodyWaitsInVain(t *testing.T) {
	r := rand.New(rand.NewSource(1))
	for range 200 {
		l := latch.Latch{}
		var came, entered []int
		asked := 0
		for asked < 40 || len(l.Holders)+len(l.Queue) > 0 {
			if asked < 40 && r.Intn(2) == 0 {
				exclusive := r.Intn(3) == 0
				got, in, err := latch.Ask(l, asked, exclusive)
				if err != api.OK {
					t.Fatal(err)
				}
				l = got
				came = append(came, asked)
				if in {
					entered = append(entered, asked)
				}
				asked++
			} else if len(l.Holders) > 0 {
				var in []int
				l, in, _ = latch.Drop(l, l.Holders[r.Intn(len(l.Holders))])
				entered = append(entered, in...)
			}
			if !latch.Right(l) {
				t.Fatalf("%v is not right", l)
			}
			if len(l.Holders) == 0 && len(l.Queue) > 0 {
				t.Fatalf("%v: nobody holds it, and somebody waits", l)
			}
			for _, who := range l.Holders {
				if _, one := latch.Holds(l, who); one && len(l.Holders) > 1 {
					t.Fatalf("%v: a writer is not alone", l)
				}
			}
		}
		if !slices.Equal(came, entered) {
			t.Fatalf("they came as %d, and were let in as %d", came, entered)
		}
	}
}

func TestP8_3_Example(t *testing.T) {
	l := ask(t, latch.Latch{}, 1, false, true)
	l = ask(t, l, 2, false, true)
	l = ask(t, l, 3, true, false)
	l = ask(t, l, 4, false, false)
	l = drop(t, l, 1)
	l = drop(t, l, 2, 3)
	is(t, l, alone(3, reads(4)))
	is(t, drop(t, l, 3, 4), shared([]int{4}))
}

func TestP8_1_SpareRoomIsLeft(t *testing.T) {
	l := shared(append(make([]int, 0, 9), 4, 7), append(make([]latch.Wait, 0, 9), writes(5), reads(6), reads(3))...)
	ask(t, l, 8, false, false)
	drop(t, l, 5, 6, 3)
	open := shared(l.Holders)
	ask(t, open, 5, false, true)
	drop(t, open, 4)
	if l.Holders[:3][2] != 0 || l.Queue[:4][3] != (latch.Wait{}) || !slices.Equal(l.Holders, []int{4, 7}) {
		t.Errorf("something is written behind what was handed in: %v", l)
	}
}
