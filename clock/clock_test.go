package clock_test

import (
	"fmt"
	"math"
	"math/rand"
	"slices"
	"testing"

	"lockkeeper/api"
	"lockkeeper/clock"
)

// same holds two values against each other; fmt tells nil and empty lists alike.
func same(a, b any) bool { return fmt.Sprintf("%v", a) == fmt.Sprintf("%v", b) }

func clone(c clock.Clock) clock.Clock {
	return clock.Clock{Frames: slices.Clone(c.Frames), Hand: c.Hand}
}

// of makes a clock by letters: u is Used, p has a pin, b both, a dot neither.
func of(hand int, letters string) clock.Clock {
	c := clock.Clock{Hand: hand}
	for i, b := range letters {
		f := clock.Frame{Page: i + 1, Used: b == 'u' || b == 'b'}
		if b == 'p' || b == 'b' {
			f.Pins = i + 1
		}
		c.Frames = append(c.Frames, f)
	}
	return c
}

func wrong() []clock.Clock {
	one := func(page, pins int) clock.Clock {
		return clock.Clock{Frames: []clock.Frame{{}, {Page: page, Pins: pins}}}
	}
	return []clock.Clock{
		{}, of(0, "........."), of(-1, "."), of(1, "."), of(8, "........"), of(math.MaxInt, ".."), of(math.MinInt, ".."),
		one(-1, 0), one(17, 0), one(math.MaxInt, 0), one(1, -1), one(1, api.MaxNum+1), one(1, math.MinInt),
	}
}

func sweep(t *testing.T, c clock.Clock) (clock.Clock, int) {
	t.Helper()
	was := clone(c)
	got, frame, ok := clock.Sweep(c)
	if !ok || !clock.Right(got) {
		t.Fatalf("Sweep of %v: %v %t", c, got, ok)
	}
	if !same(c, was) {
		t.Fatalf("what was handed in was changed: %v", c)
	}
	return got, frame
}

func TestP9_1_Right(t *testing.T) {
	for i, c := range []clock.Clock{
		of(0, "."), of(7, "upb...uu"), {Frames: make([]clock.Frame, 3), Hand: 2},
		{Frames: []clock.Frame{{Page: 16, Pins: api.MaxNum}, {Page: 16}, {Pins: 1, Used: true}}},
	} {
		if !clock.Right(c) {
			t.Errorf("clock %d is not right", i)
		}
	}
	for i, c := range wrong() {
		if clock.Right(c) {
			t.Errorf("wrong clock %d is right", i)
		}
	}
}

func TestP9_1_Sweep(t *testing.T) {
	for _, c := range []struct {
		c, want clock.Clock
		frame   int
	}{
		{of(0, "u.."), of(2, "..."), 1},
		{of(0, "..."), of(1, "..."), 0},
		{of(2, "..."), of(0, "..."), 2},
		{of(0, "uuu"), of(1, "..."), 0},
		{of(1, "uuu"), of(2, "..."), 1},
		{of(1, "u.u"), of(2, "u.u"), 1},
		{of(2, "u.u"), of(2, "..."), 1},
		{of(0, "p.p"), of(2, "p.p"), 1},
		{of(0, "b.u"), of(2, "b.u"), 1},
		{of(0, "bub"), of(2, "b.b"), 1},
		{of(2, "bub"), of(2, "b.b"), 1},
		{of(0, "pu."), of(0, "p.."), 2},
		{of(0, "u"), of(0, "."), 0},
		{of(0, "."), of(0, "."), 0},
		{of(5, "pppp.uup"), of(5, "pppp...p"), 4},
		{of(4, "uuuuuuuu"), of(5, "........"), 4},
		{of(7, "ubbbbbbb"), of(1, ".bbbbbbb"), 0},
	} {
		if got, frame := sweep(t, c.c); !same(got, c.want) || frame != c.frame {
			t.Errorf("Sweep of %v: %v %d, not %v %d", c.c, got, frame, c.want, c.frame)
		}
	}
}

func TestP9_1_NobodyGoes(t *testing.T) {
	for i, c := range append(wrong(), of(0, "p"), of(0, "b"), of(2, "pbp"), of(3, "bbbbbbbb")) {
		if got, frame, ok := clock.Sweep(c); ok || frame != 0 || !same(got, c) {
			t.Errorf("Sweep of clock %d: %v %d %t", i, got, frame, ok)
		}
	}
	c := clock.Clock{Frames: []clock.Frame{{Used: true}, {Pins: 1}}}
	if got, frame := sweep(t, c); frame != 0 || got.Hand != 1 || got.Frames[0].Used {
		t.Errorf("a frame without a page: %v %d", got, frame)
	}
}

func TestP9_1_Touch(t *testing.T) {
	c := of(1, "pu.")
	was := clone(c)
	for frame, want := range []clock.Clock{of(1, "bu."), of(1, "pu."), of(1, "puu")} {
		if got := clock.Touch(c, frame); !same(got, want) {
			t.Errorf("Touch(%d): %v", frame, got)
		}
		if !same(c, was) {
			t.Fatalf("what was handed in was changed: %v", c)
		}
	}
	for _, frame := range []int{-1, 3, math.MaxInt, math.MinInt} {
		if got := clock.Touch(c, frame); !same(got, c) {
			t.Errorf("Touch(%d): %v", frame, got)
		}
	}
	for i, c := range wrong() {
		for _, frame := range []int{0, 1} {
			if got := clock.Touch(c, frame); !same(got, c) {
				t.Errorf("Touch of wrong clock %d: %v", i, got)
			}
		}
	}
}

func TestP9_2_WhoGoes(t *testing.T) {
	r := rand.New(rand.NewSource(1))
	for range 3000 {
		letters := make([]byte, 1+r.Intn(8))
		for i := range letters {
			letters[i] = "u.pb"[r.Intn(4)]
		}
		c := of(r.Intn(len(letters)), string(letters))
		free, unused := false, false
		for _, f := range c.Frames {
			free = free || f.Pins == 0
			unused = unused || f.Pins == 0 && !f.Used
		}
		if _, _, ok := clock.Sweep(c); ok != free {
			t.Fatalf("Sweep of %v: %t", c, ok)
		}
		if !free {
			continue
		}
		got, frame := sweep(t, c)
		if f := c.Frames[frame]; f.Pins > 0 || f.Used && unused {
			t.Fatalf("Sweep of %v: %d went", c, frame)
		}
		// All that the hand passed, and nothing else, was turned.
		want := clone(c)
		passed := (frame - c.Hand + len(letters)) % len(letters)
		if c.Frames[frame].Used {
			passed = len(letters)
		}
		for i := range passed {
			if f := &want.Frames[(c.Hand+i)%len(letters)]; f.Pins == 0 {
				f.Used = false
			}
		}
		want.Hand = (frame + 1) % len(letters)
		if !same(got, want) {
			t.Fatalf("Sweep of %v: %v, not %v", c, got, want)
		}
	}
}
