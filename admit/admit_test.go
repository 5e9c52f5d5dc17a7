package admit_test

import (
	"fmt"
	"math"
	"math/rand"
	"slices"
	"testing"

	"lockkeeper/admit"
	"lockkeeper/api"
	"lockkeeper/bank"
)

// same holds two values against each other; fmt tells nil and empty lists alike.
func same(a, b any) bool { return fmt.Sprintf("%v", a) == fmt.Sprintf("%v", b) }

func clone(h admit.Hall) admit.Hall {
	h.Clients, h.Queue = slices.Clone(h.Clients), slices.Clone(h.Queue)
	return h
}

func c(who, claim, held int) bank.Client { return bank.Client{Who: who, Claim: claim, Held: held} }
func q(who, claim int) admit.Ticket      { return admit.Ticket{Who: who, Claim: claim} }

func hall(frames, budget int, l ...any) admit.Hall {
	h := admit.Hall{Frames: frames, Budget: budget}
	for _, x := range l {
		switch x := x.(type) {
		case bank.Client:
			h.Clients = append(h.Clients, x)
		case admit.Ticket:
			h.Queue = append(h.Queue, x)
		}
	}
	return h
}

// crowd is a hall of 8 clients and n tickets.
func crowd(n int) admit.Hall {
	h := hall(8, 1)
	for i := range 8 + n {
		if i < 8 {
			h.Clients = append(h.Clients, c(i, 1, 0))
		} else {
			h.Queue = append(h.Queue, q(i, 1))
		}
	}
	return h
}

func right() []admit.Hall {
	return []admit.Hall{
		hall(1, 1), hall(8, 100), hall(3, 5, c(1, 3, 3)), hall(3, 5, c(0, 2, 1), c(api.MaxNum, 2, 1)), hall(3, 5, c(1, 3, 0), c(2, 3, 0), q(3, 1)),
		hall(3, 2, c(1, 2, 2), c(2, 2, 1), c(3, 2, 0), q(4, 2), q(api.MaxNum, 1), q(0, 1)), hall(3, 3, c(1, 3, 0), c(2, 2, 0), q(3, 2), q(4, 1)), crowd(0), crowd(1), crowd(32),
		hall(8, 1, c(1, 1, 1), c(2, 1, 1), c(3, 1, 1), c(4, 1, 1), c(5, 1, 1), c(6, 1, 1), c(7, 1, 1), c(8, 1, 1), q(9, 1)),
	}
}

func wrong() []admit.Hall {
	nine := crowd(0)
	nine.Clients = append(nine.Clients, c(100, 1, 0))
	return []admit.Hall{
		{}, hall(0, 1), hall(-1, 1), hall(9, 1), hall(math.MaxInt, 1), hall(1, 0), hall(1, -1), hall(1, 101), hall(1, math.MaxInt),
		nine, hall(3, 3, c(1, 2, 3)), hall(3, 3, c(1, 2, -1)), hall(3, 3, c(1, 1, 0), c(1, 1, 0)), hall(3, 3, c(-1, 1, 0)), hall(3, 3, c(api.MaxNum+1, 1, 0)),
		hall(3, 3, c(1, 2, 2), c(2, 2, 2)), hall(3, 3, c(1, 3, 1), c(2, 3, 2)), hall(2, 2, c(1, 2, 1), c(2, 2, 1)),
		hall(3, 3, c(1, 0, 0)), hall(3, 3, c(1, 4, 0)), hall(3, 2, c(1, 3, 0)), hall(8, 3, c(1, 4, 0)),
		hall(1, 1, c(1, 1, 0), c(2, 1, 0), q(3, 0)), hall(1, 1, c(1, 1, 0), c(2, 1, 0), q(3, 2)), hall(2, 1, c(1, 1, 0), c(2, 1, 0), c(3, 1, 0), c(4, 1, 0), q(5, 2)),
		hall(1, 1, c(1, 1, 0), c(2, 1, 0), q(3, 1), q(4, -1)), hall(1, 1, c(1, 1, 0), c(2, 1, 0), q(3, 1), q(4, math.MaxInt)), hall(1, 1, q(3, math.MaxInt)),
		hall(1, 1, c(1, 1, 0), c(2, 1, 0), q(1, 1)), hall(1, 1, c(1, 1, 0), c(2, 1, 0), q(3, 1), q(3, 1)), hall(1, 1, c(1, 1, 0), c(2, 1, 0), q(-1, 1)), hall(1, 1, c(1, 1, 0), c(2, 1, 0), q(api.MaxNum+1, 1)),
		hall(1, 1, q(1, 1)), hall(1, 1, c(1, 1, 0), q(2, 1)), hall(3, 3, c(1, 3, 0), c(2, 2, 0), q(3, 1)), hall(8, 1, c(1, 1, 0), q(2, 1)),
		crowd(33),
	}
}

func TestP11_1_Right(t *testing.T) {
	for i, h := range right() {
		if !admit.Right(h) {
			t.Errorf("hall %d is not right", i)
		}
	}
	for i, h := range wrong() {
		if admit.Right(h) {
			t.Errorf("wrong hall %d is right", i)
		}
	}
}

func TestP11_1_Free(t *testing.T) {
	for _, x := range []struct {
		h    admit.Hall
		want int
	}{
		{hall(3, 1), 3}, {hall(8, 8), 8}, {hall(3, 3, c(1, 2, 1), c(2, 2, 1)), 1}, {hall(3, 5, c(1, 3, 3)), 0}, {crowd(5), 8},
	} {
		if n := admit.Free(x.h); n != x.want {
			t.Errorf("Free(%v): %d", x.h, n)
		}
	}
	for i, h := range wrong() {
		if n := admit.Free(h); n != 0 {
			t.Errorf("Free of wrong hall %d: %d", i, n)
		}
	}
}

func TestP11_1_OfWrongHalls(t *testing.T) {
	for i, h := range wrong() {
		for _, who := range []int{-1, 1, 77} {
			if got, in, err := admit.Begin(h, who, 1); err != api.ErrArg || in || !same(got, h) {
				t.Errorf("Begin in wrong hall %d: %t %d", i, in, err)
			}
			if got, err := admit.Pin(h, who); err != api.ErrArg || !same(got, h) {
				t.Errorf("Pin in wrong hall %d: %d", i, err)
			}
			if got, err := admit.Unpin(h, who); err != api.ErrArg || !same(got, h) {
				t.Errorf("Unpin in wrong hall %d: %d", i, err)
			}
			if got, in, err := admit.End(h, who); err != api.ErrArg || len(in) != 0 || !same(got, h) {
				t.Errorf("End in wrong hall %d: %d %d", i, in, err)
			}
		}
	}
}

func begin(t *testing.T, h admit.Hall, who, claim int, want bool) admit.Hall {
	t.Helper()
	was := clone(h)
	got, in, err := admit.Begin(h, who, claim)
	if err != api.OK || in != want || !admit.Right(got) {
		t.Fatalf("Begin(%d, %d) in %v: %v %t %d", who, claim, h, got, in, err)
	}
	if !same(h, was) {
		t.Fatalf("what was handed in was changed: %v", h)
	}
	return got
}

func end(t *testing.T, h admit.Hall, who int, want ...int) admit.Hall {
	t.Helper()
	was := clone(h)
	got, in, err := admit.End(h, who)
	if err != api.OK || !slices.Equal(in, want) || !admit.Right(got) {
		t.Fatalf("End(%d) in %v: %v %d %d", who, h, got, in, err)
	}
	if !same(h, was) {
		t.Fatalf("what was handed in was changed: %v", h)
	}
	return got
}

func is(t *testing.T, got, want admit.Hall) {
	t.Helper()
	if !same(got, want) {
		t.Errorf("%v, not %v", got, want)
	}
}

func TestP11_2_Begin(t *testing.T) {
	h := begin(t, hall(3, 5), 7, 2, true)
	h = begin(t, h, 0, 3, true)
	h = begin(t, h, api.MaxNum, 1, true)
	is(t, h, hall(3, 5, c(7, 2, 0), c(0, 3, 0), c(api.MaxNum, 1, 0)))
	h = begin(t, h, 4, 1, false)
	is(t, h, hall(3, 5, c(7, 2, 0), c(0, 3, 0), c(api.MaxNum, 1, 0), q(4, 1)))
	a := begin(t, h, 5, 1, false)
	begin(t, h, 6, 3, false)
	is(t, a, hall(3, 5, c(7, 2, 0), c(0, 3, 0), c(api.MaxNum, 1, 0), q(4, 1), q(5, 1)))
	// A small claim does not pass a great one.
	h = begin(t, hall(3, 3, c(1, 3, 0), c(2, 2, 0)), 3, 2, false)
	is(t, begin(t, h, 4, 1, false), hall(3, 3, c(1, 3, 0), c(2, 2, 0), q(3, 2), q(4, 1)))
	// With 8 clients nobody comes in, be there claims left or not.
	is(t, begin(t, crowd(0), 8, 1, false), crowd(1))
	is(t, begin(t, crowd(31), 39, 1, false), crowd(32))
}

func TestP11_2_BeginRefuses(t *testing.T) {
	refused := func(h admit.Hall, who, claim int, want api.Errno) {
		t.Helper()
		if got, in, err := admit.Begin(h, who, claim); err != want || in || !same(got, h) {
			t.Errorf("Begin(%d, %d) in %v: %t %d, not %d", who, claim, h, in, err, want)
		}
	}
	h := hall(3, 2, c(1, 2, 0), c(2, 2, 0), c(3, 2, 0), q(4, 2))
	for _, h := range []admit.Hall{hall(3, 2), h, crowd(32)} {
		for _, who := range []int{-1, api.MaxNum + 1, math.MaxInt, math.MinInt} {
			refused(h, who, 1, api.ErrArg)
			refused(h, who, 0, api.ErrArg)
		}
		for _, claim := range []int{0, -1, 3, math.MaxInt, math.MinInt} {
			refused(h, 1, claim, api.ErrClaim)
			refused(h, 500, claim, api.ErrClaim)
		}
	}
	refused(hall(3, 50), 1, 4, api.ErrClaim)
	refused(h, 2, 1, api.ErrThere)
	refused(h, 4, 2, api.ErrThere)
	refused(crowd(32), 39, 1, api.ErrThere)
	refused(crowd(32), 0, 1, api.ErrThere)
	refused(crowd(32), 40, 1, api.ErrFull)
}

func TestP11_2_End(t *testing.T) {
	is(t, end(t, hall(3, 3, c(1, 3, 1), c(2, 2, 1)), 1), hall(3, 3, c(2, 2, 1)))
	h := hall(3, 3, c(1, 3, 1), c(2, 2, 1), q(3, 2), q(4, 1), q(5, 1))
	is(t, end(t, h, 1, 3, 4, 5), hall(3, 3, c(2, 2, 1), c(3, 2, 0), c(4, 1, 0), c(5, 1, 0)))
	is(t, end(t, h, 2, 3, 4), hall(3, 3, c(1, 3, 1), c(3, 2, 0), c(4, 1, 0), q(5, 1)))
	is(t, end(t, h, 3, 4), hall(3, 3, c(1, 3, 1), c(2, 2, 1), c(4, 1, 0), q(5, 1)))
	is(t, end(t, h, 5), hall(3, 3, c(1, 3, 1), c(2, 2, 1), q(3, 2), q(4, 1)))
	is(t, end(t, hall(2, 2, c(1, 1, 1), c(2, 2, 0), q(9, 2), q(8, 1)), 1, 9), hall(2, 2, c(2, 2, 0), c(9, 2, 0), q(8, 1)))
	h = crowd(2)
	want := crowd(2)
	want.Clients = append(slices.Delete(want.Clients, 3, 4), c(8, 1, 0))
	want.Queue = want.Queue[1:]
	is(t, end(t, h, 3, 8), want)
	for _, who := range []int{10, -1, math.MaxInt, math.MinInt} {
		if got, in, err := admit.End(h, who); err != api.ErrNone || len(in) != 0 || !same(got, h) {
			t.Errorf("End(%d): %d %d", who, in, err)
		}
	}
}

func TestP11_3_Pin(t *testing.T) {
	for _, x := range []struct {
		h    admit.Hall
		who  int
		want api.Errno
	}{
		{hall(3, 3, c(1, 2, 1), c(2, 2, 1)), 1, api.OK},
		{hall(3, 3, c(1, 2, 2), c(2, 2, 1)), 1, api.ErrBudget},
		{hall(3, 3, c(1, 2, 2), c(2, 2, 1)), 2, api.ErrBusy},
		{hall(3, 3, c(1, 2, 2), c(2, 2, 1)), 3, api.ErrNone},
		{hall(3, 3, c(1, 3, 3)), 1, api.ErrBudget},
		{hall(3, 3, c(1, 3, 1), c(2, 3, 0)), 2, api.ErrBusy},
		{hall(3, 3, c(1, 3, 1), c(2, 3, 0)), 1, api.OK},
		{hall(5, 5, c(1, 4, 2), c(2, 4, 1)), 2, api.ErrBusy},
		{hall(5, 5, c(1, 4, 2), c(2, 4, 1)), 1, api.OK},
		{hall(2, 2, c(1, 2, 1), c(2, 2, 0)), 2, api.ErrBusy},
		{hall(2, 2, c(1, 2, 1), c(2, 1, 0)), 2, api.OK},
		{hall(1, 1, c(1, 1, 1), c(2, 1, 0)), 2, api.ErrBusy},
		{hall(1, 1, c(1, 1, 0), c(2, 1, 0), q(3, 1)), 3, api.ErrNone},
		{hall(1, 1), 0, api.ErrNone},
		{hall(1, 1), math.MinInt, api.ErrNone},
	} {
		was := clone(x.h)
		got, err := admit.Pin(x.h, x.who)
		want := clone(x.h)
		if x.want == api.OK {
			want.Clients[slices.IndexFunc(want.Clients, func(c bank.Client) bool { return c.Who == x.who })].Held++
		}
		if err != x.want || !same(got, want) {
			t.Errorf("Pin(%d) in %v: %v %d, not %d", x.who, x.h, got, err, x.want)
		}
		if !same(x.h, was) {
			t.Errorf("what was handed in was changed: %v", x.h)
		}
	}
}

func TestP11_3_Unpin(t *testing.T) {
	h := hall(3, 3, c(1, 3, 2), c(2, 2, 0), q(3, 2))
	was := clone(h)
	got, err := admit.Unpin(h, 1)
	if want := hall(3, 3, c(1, 3, 1), c(2, 2, 0), q(3, 2)); err != api.OK || !same(got, want) {
		t.Errorf("Unpin: %v %d", got, err)
	}
	for who, want := range map[int]api.Errno{2: api.ErrHandle, 3: api.ErrNone, 4: api.ErrNone, -1: api.ErrNone, math.MaxInt: api.ErrNone} {
		if got, err := admit.Unpin(h, who); err != want || !same(got, h) {
			t.Errorf("Unpin(%d): %v %d", who, got, err)
		}
	}
	if !same(h, was) {
		t.Errorf("what was handed in was changed: %v", h)
	}
}

func TestP11_4_WhateverIsDone(t *testing.T) {
	r := rand.New(rand.NewSource(1))
	for range 60 {
		h := hall(1+r.Intn(8), 1+r.Intn(9))
		var came, entered []int
		gone := map[int]bool{}
		for n := range 150 {
			switch r.Intn(5) {
			case 0, 1:
				claim := 1 + r.Intn(min(h.Frames, h.Budget))
				got, in, err := admit.Begin(h, n, claim)
				if full := len(h.Clients)+len(h.Queue) == 40; err != api.OK && (!full || err != api.ErrFull) {
					t.Fatalf("a claim of %d in %v: %d", claim, h, err)
				}
				if err == api.OK {
					came = append(came, n)
				}
				if in {
					entered = append(entered, n)
				}
				h = got
			case 2, 3:
				if len(h.Clients) > 0 {
					h, _ = admit.Pin(h, h.Clients[r.Intn(len(h.Clients))].Who)
				}
			case 4:
				who := r.Intn(n + 1)
				if len(h.Clients) > 0 && r.Intn(4) > 0 {
					who = h.Clients[r.Intn(len(h.Clients))].Who
				}
				if r.Intn(4) == 0 {
					h, _ = admit.Unpin(h, who)
					break
				}
				got, in, _ := admit.End(h, who)
				gone[who] = true
				h = got
				entered = append(entered, in...)
			}
			goesOn(t, h)
		}
		var order []int
		for _, who := range came {
			if slices.Contains(entered, who) {
				order = append(order, who)
			} else if !gone[who] && !slices.ContainsFunc(h.Queue, func(q admit.Ticket) bool { return q.Who == who }) {
				t.Fatalf("%d came, and is nowhere", who)
			}
		}
		if !slices.Equal(order, entered) {
			t.Fatalf("they came as %d, and were admitted as %d", came, entered)
		}
	}
}

// goesOn tells whether a hall is right, and somebody in it can go on.
func goesOn(t *testing.T, h admit.Hall) {
	t.Helper()
	held, wants, can := 0, false, false
	for _, c := range h.Clients {
		held += c.Held
		wants = wants || c.Held < c.Claim
		_, err := admit.Pin(h, c.Who)
		can = can || err == api.OK || c.Held == c.Claim
		if c.Held > c.Claim {
			t.Fatalf("%v: more is held than claimed", h)
		}
	}
	if !admit.Right(h) || held > h.Frames || wants && !can {
		t.Fatalf("%v: %d held, somebody wants %t, can %t", h, held, wants, can)
	}
}

func TestP11_2_SpareRoomIsLeft(t *testing.T) {
	h := hall(3, 3, c(1, 3, 0), c(2, 2, 0), q(3, 2), q(4, 1))
	h.Clients = append(make([]bank.Client, 0, 9), h.Clients...)
	h.Queue = append(make([]admit.Ticket, 0, 9), h.Queue...)
	begin(t, h, 5, 1, false)
	end(t, h, 3, 4)
	end(t, h, 1, 3, 4)
	if h.Clients[:3][2] != (bank.Client{}) || h.Queue[:3][2] != (admit.Ticket{}) {
		t.Errorf("something is written behind what was handed in: %v", h)
	}
}
