package frames_test

import (
	"fmt"
	"math"
	"math/rand"
	"slices"
	"testing"

	"lockkeeper/api"
	"lockkeeper/clock"
	"lockkeeper/dirty"
	"lockkeeper/frames"
	"lockkeeper/table"
)

// same holds two values against each other; fmt tells nil and empty lists alike.
func same(a, b any) bool { return fmt.Sprintf("%v", a) == fmt.Sprintf("%v", b) }

func clone(f frames.Frames) frames.Frames {
	f.Clock.Frames = slices.Clone(f.Clock.Frames)
	f.Table.Slots = slices.Clone(f.Table.Slots)
	f.Pages = slices.Clone(f.Pages)
	f.Dirty = slices.Clone(f.Dirty)
	return f
}

func of(id, version int, body string) api.Page {
	return api.Page{Id: id, Version: version, Body: body}
}

func fresh(t *testing.T, n int) frames.Frames {
	t.Helper()
	f, err := frames.New(n)
	if err != api.OK || !frames.Right(f) {
		t.Fatalf("New(%d): %v %d", n, f, err)
	}
	return f
}

// must holds a call to OK, to frames that are right, and to leave what it was handed.
func must(t *testing.T, f frames.Frames, call func(frames.Frames) (frames.Frames, api.Errno)) frames.Frames {
	t.Helper()
	was := clone(f)
	got, err := call(f)
	if err != api.OK || !frames.Right(got) {
		t.Fatalf("%v: %v %d", was, got, err)
	}
	if !same(f, was) {
		t.Fatalf("what was handed in was changed: %v", f)
	}
	return got
}

func load(t *testing.T, f frames.Frames, p api.Page, now int, isFresh bool) frames.Frames {
	t.Helper()
	return must(t, f, func(f frames.Frames) (frames.Frames, api.Errno) { return frames.Load(f, p, now, isFresh) })
}

func pin(t *testing.T, f frames.Frames, id int) frames.Frames {
	t.Helper()
	return must(t, f, func(f frames.Frames) (frames.Frames, api.Errno) { return frames.Pin(f, id) })
}

func unpin(t *testing.T, f frames.Frames, ids ...int) frames.Frames {
	t.Helper()
	for _, id := range ids {
		f = must(t, f, func(f frames.Frames) (frames.Frames, api.Errno) { return frames.Unpin(f, id) })
	}
	return f
}

func write(t *testing.T, f frames.Frames, id int, body string, now int) frames.Frames {
	t.Helper()
	return must(t, f, func(f frames.Frames) (frames.Frames, api.Errno) { return frames.Write(f, id, body, now) })
}

func is(t *testing.T, got, want frames.Frames) {
	t.Helper()
	if !same(got, want) {
		t.Errorf("%v, not %v", got, want)
	}
}

// base has 3 frames: 5 with two pins, dirty; 2 without a pin; and one that is free.
func base(t *testing.T) frames.Frames {
	t.Helper()
	f := load(t, fresh(t, 3), of(5, 1, "a"), 7, true)
	f = load(t, f, of(2, 9, "0123456789abcdef"), 0, false)
	return unpin(t, pin(t, f, 5), 2)
}

// full has 3 frames, of the pages 1, 17 modulo 16, and so on: the last one dirty, none with a pin.
func full(t *testing.T) frames.Frames {
	t.Helper()
	f := load(t, fresh(t, 3), of(1, 1, "a"), 0, false)
	f = load(t, f, of(16, 2, "b"), 0, false)
	f = load(t, f, of(3, 3, "c"), 5, true)
	return unpin(t, f, 1, 16, 3)
}

func wrong(t *testing.T) []frames.Frames {
	l := []frames.Frames{{}}
	for _, change := range []func(f *frames.Frames){
		func(f *frames.Frames) { f.Clock.Hand = 3 },
		func(f *frames.Frames) { f.Clock.Hand = -1 },
		func(f *frames.Frames) { f.Clock.Frames[0].Pins = -1 },
		func(f *frames.Frames) { f.Table.Slots = f.Table.Slots[:15] },
		func(f *frames.Frames) { f.Table.Slots[9] = table.Slot{Page: 8} },
		func(f *frames.Frames) { f.Dirty[0].Since = -1 },
		func(f *frames.Frames) { f.Dirty = append(f.Dirty, f.Dirty[0]) },
		func(f *frames.Frames) { f.Pages = f.Pages[:2] },
		func(f *frames.Frames) { f.Pages = append(f.Pages, api.Page{}) },
		func(f *frames.Frames) { f.Pages = nil },
		func(f *frames.Frames) { f.Pages[0].Id = 6 },
		func(f *frames.Frames) { f.Pages[0].Id = 0 },
		func(f *frames.Frames) { f.Pages[0] = api.Page{} },
		func(f *frames.Frames) { f.Pages[0].Version = 0 },
		func(f *frames.Frames) { f.Pages[1].Body += "g" },
		func(f *frames.Frames) { f.Pages[2].Version = 1 },
		func(f *frames.Frames) { f.Pages[2].Body = "a" },
		func(f *frames.Frames) { f.Pages[2].Id = 1 },
		func(f *frames.Frames) { f.Clock.Frames[2].Pins = 1 },
		func(f *frames.Frames) { f.Clock.Frames[0].Page = 0 },
		func(f *frames.Frames) { f.Clock.Frames[0].Page = 6 },
		func(f *frames.Frames) { f.Clock.Frames[1] = clock.Frame{} },
		func(f *frames.Frames) { f.Table.Slots[2] = table.Slot{} },
		func(f *frames.Frames) { f.Table.Slots[2].Frame = 2 },
		func(f *frames.Frames) { f.Table.Slots[2].Frame, f.Table.Slots[5].Frame = 0, 1 },
		func(f *frames.Frames) { f.Table.Slots[7] = table.Slot{Page: 7, Frame: 2} },
		func(f *frames.Frames) { f.Table.Slots[7] = table.Slot{Page: 7, Frame: 0} },
		func(f *frames.Frames) { f.Table.Slots[2].Page = 18 },
		func(f *frames.Frames) { f.Clock.Frames[2].Page, f.Pages[2] = 5, f.Pages[0] },
		func(f *frames.Frames) {
			f.Clock.Frames[2].Page, f.Pages[2] = 17, of(17, 1, "")
			f.Table.Slots[1] = table.Slot{Page: 17, Frame: 2}
		},
		func(f *frames.Frames) { f.Dirty[0].Page = 6 },
		func(f *frames.Frames) { f.Dirty = append(f.Dirty, dirty.Item{Page: 9, Since: 9}) },
	} {
		f := clone(base(t))
		change(&f)
		l = append(l, f)
	}
	torn := fresh(t, 2)
	torn.Table.Slots = torn.Table.Slots[:15]
	return append(l, torn)
}

func TestP15_1_New(t *testing.T) {
	for n := 1; n <= 8; n++ {
		is(t, fresh(t, n), frames.Frames{Clock: clock.Clock{Frames: make([]clock.Frame, n)}, Table: table.New(), Pages: make([]api.Page, n)})
	}
	for _, n := range []int{0, -1, 9, math.MaxInt, math.MinInt} {
		if f, err := frames.New(n); err != api.ErrArg || !same(f, frames.Frames{}) {
			t.Errorf("New(%d): %v %d", n, f, err)
		}
	}
}

func TestP15_1_Right(t *testing.T) {
	used := base(t)
	used.Clock.Frames[2].Used = true
	for i, f := range []frames.Frames{base(t), full(t), used} {
		if !frames.Right(f) {
			t.Errorf("frames %d are not right", i)
		}
	}
	for i, f := range wrong(t) {
		if frames.Right(f) {
			t.Errorf("wrong frames %d are right", i)
		}
	}
}

func TestP15_1_OfWrongFrames(t *testing.T) {
	for i, f := range wrong(t) {
		was := clone(f)
		refused := func(name string, got frames.Frames, err api.Errno) {
			t.Helper()
			if err != api.ErrArg || !same(got, was) {
				t.Errorf("%s of wrong frames %d: %v %d", name, i, got, err)
			}
		}
		for _, id := range []int{5, 2, 9} {
			if at, ok := frames.Find(f, id); at != 0 || ok {
				t.Errorf("Find in wrong frames %d: %d %t", i, at, ok)
			}
			got, err := frames.Pin(f, id)
			refused("Pin", got, err)
			got, err = frames.Unpin(f, id)
			refused("Unpin", got, err)
			got, err = frames.Write(f, id, "b", 9)
			refused("Write", got, err)
			got, err = frames.Clean(f, id)
			refused("Clean", got, err)
			got, err = frames.Drop(f, id)
			refused("Drop", got, err)
			got, err = frames.Load(f, of(id, 1, ""), 9, true)
			refused("Load", got, err)
		}
		got, p, isDirty, err := frames.Room(f)
		refused("Room", got, err)
		if p != (api.Page{}) || isDirty {
			t.Errorf("Room of wrong frames %d: %v %t", i, p, isDirty)
		}
	}
}

func TestP15_1_Find(t *testing.T) {
	f := base(t)
	for id, want := range map[int]int{5: 0, 2: 1} {
		if at, ok := frames.Find(f, id); at != want || !ok {
			t.Errorf("Find(%d): %d %t", id, at, ok)
		}
	}
	for _, id := range []int{0, 1, 16, 18, 21, -1, math.MaxInt, math.MinInt} {
		if at, ok := frames.Find(f, id); at != 0 || ok {
			t.Errorf("Find(%d): %d %t", id, at, ok)
		}
	}
}

func room(t *testing.T, f frames.Frames, wantPage api.Page, wantDirty bool, wantErr api.Errno) frames.Frames {
	t.Helper()
	was := clone(f)
	got, p, isDirty, err := frames.Room(f)
	if p != wantPage || isDirty != wantDirty || err != wantErr || !frames.Right(got) {
		t.Fatalf("Room of %v: %v %v %t %d", f, got, p, isDirty, err)
	}
	if !same(f, was) {
		t.Fatalf("what was handed in was changed: %v", f)
	}
	return got
}

func TestP15_2_Room(t *testing.T) {
	is(t, room(t, base(t), api.Page{}, false, api.OK), base(t))
	is(t, room(t, fresh(t, 1), api.Page{}, false, api.OK), fresh(t, 1))

	f := full(t)
	got := room(t, f, of(1, 1, "a"), false, api.OK)
	want := clone(f)
	want.Clock = clock.Clock{Frames: []clock.Frame{{}, {Page: 16}, {Page: 3}}, Hand: 1}
	want.Pages[0] = api.Page{}
	want.Table.Slots[1] = table.Slot{}
	is(t, got, want)

	// A dirty page is told, and stays; the hand has gone on.
	f.Clock.Hand = 2
	got = room(t, f, of(3, 3, "c"), true, api.OK)
	want = clone(f)
	want.Clock = clock.Clock{Frames: []clock.Frame{{Page: 1}, {Page: 16}, {Page: 3}}, Hand: 0}
	is(t, got, want)
	got = room(t, got, of(1, 1, "a"), false, api.OK)
	is(t, room(t, got, api.Page{}, false, api.OK), got)

	f = pin(t, pin(t, full(t), 1), 3)
	got = room(t, f, of(16, 2, "b"), false, api.OK)
	if at, ok := frames.Find(got, 16); at != 0 || ok || got.Clock.Hand != 2 || got.Clock.Frames[1] != (clock.Frame{}) {
		t.Errorf("Room with one without pins: %v", got)
	}
	f = pin(t, f, 16)
	is(t, room(t, f, api.Page{}, false, api.ErrBusy), f)
}

func TestP15_2_RoomExample(t *testing.T) {
	f := load(t, fresh(t, 2), of(1, 1, ""), 0, false)
	f = unpin(t, load(t, f, of(2, 1, ""), 0, false), 1)
	room(t, f, of(1, 1, ""), false, api.OK)
}

func TestP15_2_Load(t *testing.T) {
	f := base(t)
	want := clone(f)
	want.Clock.Frames[2] = clock.Frame{Page: 16, Pins: 1, Used: true}
	want.Pages[2] = of(16, api.MaxNum, "x")
	want.Table.Slots[0] = table.Slot{Page: 16, Frame: 2}
	is(t, load(t, f, of(16, api.MaxNum, "x"), 0, false), want)
	is(t, load(t, f, of(16, api.MaxNum, "x"), api.MaxNum, false), want)
	want.Dirty = append(want.Dirty, dirty.Item{Page: 16, Since: 7})
	is(t, load(t, f, of(16, api.MaxNum, "x"), 7, true), want)
	// The first free one, not the one at the hand.
	f = clone(f)
	f.Clock.Hand = 1
	f, _ = frames.Drop(f, 2)
	if at, _ := frames.Find(load(t, f, of(9, 1, ""), 0, false), 9); at != 1 {
		t.Errorf("the first free frame: %d", at)
	}
}

func TestP15_2_LoadRefuses(t *testing.T) {
	refused := func(f frames.Frames, p api.Page, now int, isFresh bool, want api.Errno) {
		t.Helper()
		if got, err := frames.Load(f, p, now, isFresh); err != want || !same(got, f) {
			t.Errorf("Load(%v, %d, %t): %v %d, not %d", p, now, isFresh, got, err, want)
		}
	}
	for _, f := range []frames.Frames{base(t), full(t), pin(t, full(t), 1)} {
		for _, p := range []api.Page{{}, of(0, 1, ""), of(17, 1, ""), of(1, 0, ""), of(1, 1, "0123456789abcdefg"), of(1, api.MaxNum+1, "")} {
			refused(f, p, 9, false, api.ErrArg)
			refused(f, p, 9, true, api.ErrArg)
		}
		for _, now := range []int{-1, api.MaxNum + 1, math.MaxInt, math.MinInt} {
			refused(f, of(9, 1, ""), now, false, api.ErrArg)
			refused(f, f.Pages[0], now, true, api.ErrArg)
		}
		refused(f, of(f.Pages[0].Id, 50, ""), 9, true, api.ErrThere)
		refused(f, f.Pages[1], 9, false, api.ErrThere)
	}
	refused(full(t), of(9, 1, ""), 9, true, api.ErrFull)
	refused(full(t), of(9, 1, ""), 0, false, api.ErrFull)
	refused(base(t), of(9, 1, ""), 6, true, api.ErrArg)
}

func TestP15_3_PinAndUnpin(t *testing.T) {
	f := base(t)
	f.Clock.Frames[1].Used = false
	want := clone(f)
	want.Clock.Frames[1] = clock.Frame{Page: 2, Pins: 1, Used: true}
	is(t, pin(t, f, 2), want)
	want = clone(f)
	want.Clock.Frames[0].Pins = 3
	is(t, pin(t, f, 5), want)
	want.Clock.Frames[0].Pins = 1
	is(t, unpin(t, f, 5), want)
	want.Clock.Frames[0].Pins = 0
	is(t, unpin(t, f, 5, 5), want)
	f.Clock.Frames[0].Used = false
	if got := unpin(t, f, 5); got.Clock.Frames[0].Used {
		t.Error("an unpin uses the page")
	}
	f.Clock.Frames[0].Pins = api.MaxNum - 1
	f = pin(t, f, 5)
	if got, err := frames.Pin(f, 5); err != api.ErrFull || !same(got, f) {
		t.Errorf("a pin too many: %d", err)
	}
	if got, err := frames.Unpin(f, 2); err != api.ErrHandle || !same(got, f) {
		t.Errorf("a pin too few: %d", err)
	}
}

func TestP15_3_Write(t *testing.T) {
	f := base(t)
	want := clone(f)
	want.Pages[0] = of(5, 2, "0123456789abcdef")
	is(t, write(t, f, 5, "0123456789abcdef", 7), want)
	is(t, write(t, f, 5, "0123456789abcdef", api.MaxNum), want)
	f = pin(t, f, 2)
	f.Clock.Frames[1].Used = false
	want = clone(f)
	want.Pages[1] = of(2, 10, "")
	want.Dirty = append(want.Dirty, dirty.Item{Page: 2, Since: 8})
	is(t, write(t, f, 2, "", 8), want)
	refused := func(f frames.Frames, id int, body string, now int, want api.Errno) {
		t.Helper()
		if got, err := frames.Write(f, id, body, now); err != want || !same(got, f) {
			t.Errorf("Write(%d, %q, %d): %v %d, not %d", id, body, now, got, err, want)
		}
	}
	refused(base(t), 2, "a", 9, api.ErrHandle)
	refused(base(t), 2, "0123456789abcdefg", -1, api.ErrHandle)
	refused(f, 5, "0123456789abcdefg", 9, api.ErrLong)
	for _, now := range []int{6, 0, -1, api.MaxNum + 1, math.MaxInt, math.MinInt} {
		refused(f, 5, "a", now, api.ErrArg)
		refused(f, 2, "a", now, api.ErrArg)
	}
	f.Pages[0].Version = api.MaxNum - 1
	f = write(t, f, 5, "z", 9)
	refused(f, 5, "a", 9, api.ErrFull)
	refused(f, 5, "a", -1, api.ErrFull)
	refused(f, 5, "0123456789abcdefg", 9, api.ErrLong)
	if f.Pages[0] != of(5, api.MaxNum, "z") {
		t.Errorf("the last version: %v", f.Pages[0])
	}
}

func TestP15_3_Clean(t *testing.T) {
	f := base(t)
	want := clone(f)
	want.Dirty = nil
	got := must(t, f, func(f frames.Frames) (frames.Frames, api.Errno) { return frames.Clean(f, 5) })
	is(t, got, want)
	for _, f := range []frames.Frames{f, got} {
		if again, err := frames.Clean(f, 2); err != api.ErrHandle || !same(again, f) {
			t.Errorf("Clean of one that is clean: %d", err)
		}
	}
	if again, err := frames.Clean(got, 5); err != api.ErrHandle || !same(again, got) {
		t.Errorf("Clean, done twice: %d", err)
	}
}

func TestP15_3_Drop(t *testing.T) {
	f := base(t)
	if got, err := frames.Drop(f, 5); err != api.ErrBusy || !same(got, f) {
		t.Errorf("Drop of one with pins: %d", err)
	}
	want := clone(f)
	want.Clock.Frames[1], want.Pages[1], want.Table.Slots[2] = clock.Frame{}, api.Page{}, table.Slot{}
	got := must(t, f, func(f frames.Frames) (frames.Frames, api.Errno) { return frames.Drop(f, 2) })
	is(t, got, want)
	got = unpin(t, got, 5, 5)
	got = must(t, got, func(f frames.Frames) (frames.Frames, api.Errno) { return frames.Drop(f, 5) })
	is(t, got, fresh(t, 3))
}

func TestP15_3_NotThere(t *testing.T) {
	for _, f := range []frames.Frames{base(t), full(t), fresh(t, 1)} {
		for _, id := range []int{0, -1, 4, 17, 18, math.MaxInt, math.MinInt} {
			for name, call := range map[string]func() (frames.Frames, api.Errno){
				"Pin":   func() (frames.Frames, api.Errno) { return frames.Pin(f, id) },
				"Unpin": func() (frames.Frames, api.Errno) { return frames.Unpin(f, id) },
				"Write": func() (frames.Frames, api.Errno) { return frames.Write(f, id, "0123456789abcdefg", -1) },
				"Clean": func() (frames.Frames, api.Errno) { return frames.Clean(f, id) },
				"Drop":  func() (frames.Frames, api.Errno) { return frames.Drop(f, id) },
			} {
				if got, err := call(); err != api.ErrNone || !same(got, f) {
					t.Errorf("%s(%d): %v %d", name, id, got, err)
				}
			}
		}
	}
}

func TestP15_4_WhateverIsDone(t *testing.T) {
	r := rand.New(rand.NewSource(1))
	for range 80 {
		f := fresh(t, 1+r.Intn(8))
		for now := range 200 {
			id := 1 + r.Intn(12)
			was := clone(f)
			var err api.Errno
			var goes api.Page
			switch r.Intn(9) {
			case 0, 1:
				f, err = frames.Load(f, of(id, 1, ""), now, r.Intn(2) == 0)
			case 2:
				f, err = frames.Pin(f, id)
			case 3, 4:
				f, err = frames.Unpin(f, id)
			case 5:
				f, err = frames.Write(f, id, "b", now)
			case 6:
				f, err = frames.Clean(f, id)
			case 7:
				f, err = frames.Drop(f, id)
			case 8:
				var isDirty bool
				f, goes, isDirty, err = frames.Room(f)
				if _, ok := frames.Find(f, goes.Id); goes.Id != 0 && ok != isDirty {
					t.Fatalf("Room of %v: %v", was, f)
				}
			}
			if !frames.Right(f) || err != api.OK && !same(f, was) {
				t.Fatalf("%v: %v %d", was, f, err)
			}
			for at, frame := range was.Clock.Frames {
				if frame.Pins > 0 && (f.Clock.Frames[at].Page != frame.Page || goes.Id == frame.Page) {
					t.Fatalf("%v: %v: one with pins goes", was, f)
				}
			}
		}
	}
}
