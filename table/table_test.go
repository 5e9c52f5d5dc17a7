package table_test

import (
	"fmt"
	"maps"
	"math"
	"math/rand"
	"slices"
	"testing"

	"lockkeeper/api"
	"lockkeeper/table"
)

// same holds two values against each other; fmt tells nil and empty lists alike.
func same(a, b any) bool { return fmt.Sprintf("%v", a) == fmt.Sprintf("%v", b) }

func clone(t table.Table) table.Table { return table.Table{Slots: slices.Clone(t.Slots)} }

// lay puts pages, by their slots, the frame of each its number and 100.
func lay(pages map[int]int) table.Table {
	t := table.Table{Slots: make([]table.Slot, 16)}
	for at, page := range pages {
		t.Slots[at] = table.Slot{Page: page, Frame: page%1000 + 100}
	}
	return t
}

func put(t *testing.T, b table.Table, pages ...int) table.Table {
	t.Helper()
	for _, page := range pages {
		was := clone(b)
		got, err := table.Put(b, page, page%1000+100)
		if err != api.OK {
			t.Fatalf("Put(%d): %d", page, err)
		}
		if !same(b, was) {
			t.Fatalf("what was handed in was changed: %v", b)
		}
		b = got
	}
	return b
}

func del(t *testing.T, b table.Table, page int) table.Table {
	t.Helper()
	was := clone(b)
	got, err := table.Del(b, page)
	if err != api.OK {
		t.Fatalf("Del(%d): %d", page, err)
	}
	if !same(b, was) {
		t.Fatalf("what was handed in was changed: %v", b)
	}
	return got
}

func full() map[int]int {
	m := map[int]int{}
	for i := range 16 {
		m[i] = i + 16
	}
	return m
}

func wrong() []table.Table {
	slot := func(page, frame int) table.Table {
		t := table.New()
		t.Slots[(page%16+16)%16] = table.Slot{Page: page, Frame: frame}
		return t
	}
	twice := full()
	twice[3] = 20
	short, long := table.New(), table.New()
	short.Slots = short.Slots[:15]
	long.Slots = append(long.Slots, table.Slot{})
	return []table.Table{
		{}, short, long,
		slot(0, 1), slot(0, -1), slot(-1, 0), slot(-16, 3), slot(api.MaxNum+1, 0), slot(1, -1), slot(1, api.MaxNum+1), slot(math.MinInt, 1),
		lay(map[int]int{2: 1}), lay(map[int]int{0: 1}), lay(map[int]int{15: 16}), lay(map[int]int{1: 1, 3: 17}), lay(map[int]int{15: 15, 1: 31}),
		lay(map[int]int{1: 1, 2: 1}), lay(map[int]int{1: 1, 2: 17, 3: 1}), lay(twice),
	}
}

func TestP7_1_New(t *testing.T) {
	b := table.New()
	if !same(b, table.Table{Slots: make([]table.Slot, 16)}) || !table.Right(b) {
		t.Errorf("New: %v", b)
	}
	if table.Slots != 16 {
		t.Errorf("Slots: %d", table.Slots)
	}
	b.Slots[0].Page = 1
	if table.New().Slots[0].Page != 0 {
		t.Error("two tables share their memory")
	}
}

func TestP7_1_Right(t *testing.T) {
	turned := full()
	turned[0], turned[5], turned[9] = turned[5], turned[9], turned[0]
	gone := full()
	delete(gone, 4)
	for i, b := range []table.Table{
		lay(nil), lay(map[int]int{1: 1}), lay(map[int]int{0: 16, 15: 15}), lay(map[int]int{1: 1, 2: 17, 3: 33}), lay(map[int]int{1: 17, 2: 1}),
		lay(map[int]int{15: 31, 0: 15, 1: 47}), lay(map[int]int{15: api.MaxNum}), lay(full()), lay(turned), lay(gone),
		{Slots: append(make([]table.Slot, 15), table.Slot{Page: 15, Frame: 0})}, {Slots: append(make([]table.Slot, 15), table.Slot{Page: 15, Frame: api.MaxNum})},
	} {
		if !table.Right(b) {
			t.Errorf("table %d is not right", i)
		}
	}
	for i, b := range wrong() {
		if table.Right(b) {
			t.Errorf("wrong table %d is right", i)
		}
	}
}

func TestP7_1_OfWrongTables(t *testing.T) {
	for i, b := range wrong() {
		for _, page := range []int{0, 1, 20} {
			if frame, ok := table.Find(b, page); ok || frame != 0 {
				t.Errorf("Find in wrong table %d: %d %t", i, frame, ok)
			}
			if got, err := table.Put(b, page, 1); err != api.ErrArg || !same(got, b) {
				t.Errorf("Put in wrong table %d: %v %d", i, got, err)
			}
			if got, err := table.Del(b, page); err != api.ErrArg || !same(got, b) {
				t.Errorf("Del in wrong table %d: %v %d", i, got, err)
			}
		}
		if l := table.Pages(b); len(l) != 0 {
			t.Errorf("Pages of wrong table %d: %d", i, l)
		}
	}
}

func TestP7_1_Find(t *testing.T) {
	b := put(t, table.New(), 1, 17, 33, 15, 31, api.MaxNum)
	for page, want := range map[int]int{1: 101, 17: 117, 33: 133, 15: 115, 31: 131, api.MaxNum: api.MaxNum%1000 + 100} {
		if frame, ok := table.Find(b, page); !ok || frame != want {
			t.Errorf("Find(%d): %d %t", page, frame, ok)
		}
	}
	for _, page := range []int{0, -1, 2, 16, 49, 65, api.MaxNum + 1, math.MaxInt, math.MinInt} {
		if frame, ok := table.Find(b, page); ok || frame != 0 {
			t.Errorf("Find(%d): %d %t", page, frame, ok)
		}
	}
	for _, page := range []int{0, 2, 48, -16} {
		if frame, ok := table.Find(lay(full()), page); ok || frame != 0 {
			t.Errorf("Find(%d) in a full one: %d %t", page, frame, ok)
		}
	}
	if frame, ok := table.Find(lay(full()), 20); !ok || frame != 120 {
		t.Errorf("Find(20) in a full one: %d %t", frame, ok)
	}
}

func TestP7_2_Put(t *testing.T) {
	for _, c := range []struct {
		pages []int
		want  map[int]int
	}{
		{[]int{1, 17}, map[int]int{1: 1, 2: 17}},
		{[]int{2, 1, 17, 33}, map[int]int{1: 1, 2: 2, 3: 17, 4: 33}},
		{[]int{15, 31, 47, 16}, map[int]int{15: 15, 0: 31, 1: 47, 2: 16}},
		{[]int{16, 32}, map[int]int{0: 16, 1: 32}},
		{[]int{api.MaxNum}, map[int]int{15: api.MaxNum}},
	} {
		if b := put(t, table.New(), c.pages...); !same(b, lay(c.want)) {
			t.Errorf("Put of %d: %v", c.pages, b)
		}
	}
	b := put(t, table.New(), 3)
	for _, frame := range []int{0, api.MaxNum} {
		got, err := table.Put(b, 9, frame)
		if f, ok := table.Find(got, 9); err != api.OK || !ok || f != frame {
			t.Errorf("the frame %d: %d %d", frame, f, err)
		}
	}
}

func TestP7_2_PutRefuses(t *testing.T) {
	refused := func(b table.Table, page, frame int, want api.Errno) {
		t.Helper()
		if got, err := table.Put(b, page, frame); err != want || !same(got, b) {
			t.Errorf("Put(%d, %d): %v %d, not %d", page, frame, got, err, want)
		}
	}
	for _, b := range []table.Table{put(t, table.New(), 1), lay(full())} {
		for _, page := range []int{0, -1, api.MaxNum + 1, math.MaxInt, math.MinInt} {
			refused(b, page, 1, api.ErrArg)
		}
		for _, frame := range []int{-1, api.MaxNum + 1, math.MaxInt, math.MinInt} {
			refused(b, 1, frame, api.ErrArg)
			refused(b, 99, frame, api.ErrArg)
		}
	}
	refused(put(t, table.New(), 1, 17), 17, 5, api.ErrThere)
	refused(lay(full()), 17, 5, api.ErrThere)
	refused(lay(full()), 1, 5, api.ErrFull)
	b := lay(full())
	b.Slots[7] = table.Slot{}
	if got := put(t, b, 8+16*9); got.Slots[7].Page != 8+16*9 {
		t.Errorf("the last free slot: %v", got)
	}
}

func TestP7_2_Del(t *testing.T) {
	for _, c := range []struct {
		was, want map[int]int
		page      int
	}{
		{map[int]int{1: 1, 2: 17}, map[int]int{1: 17}, 1},
		{map[int]int{1: 1, 2: 17}, map[int]int{1: 1}, 17},
		{map[int]int{1: 1, 2: 17, 3: 33}, map[int]int{1: 17, 2: 33}, 1},
		{map[int]int{1: 1, 2: 2, 3: 17, 4: 4}, map[int]int{1: 17, 2: 2, 4: 4}, 1},
		{map[int]int{1: 1, 2: 2, 3: 17, 4: 18}, map[int]int{1: 17, 2: 2, 3: 18}, 1},
		{map[int]int{1: 1, 2: 17, 3: 2, 4: 3}, map[int]int{1: 17, 2: 2, 3: 3}, 1},
		{map[int]int{15: 15, 0: 31, 1: 47}, map[int]int{15: 31, 0: 47}, 15},
		{map[int]int{15: 15, 0: 16, 1: 31}, map[int]int{15: 31, 0: 16}, 15},
		{map[int]int{14: 14, 15: 30, 0: 46, 1: 1}, map[int]int{14: 30, 15: 46, 1: 1}, 14},
		{map[int]int{1: 1, 3: 3, 4: 19}, map[int]int{3: 3, 4: 19}, 1},
		{full(), func() map[int]int { m := full(); delete(m, 6); return m }(), 22},
	} {
		if got := del(t, lay(c.was), c.page); !same(got, lay(c.want)) {
			t.Errorf("Del(%d) of %v: %v", c.page, c.was, got)
		}
	}
	for _, b := range []table.Table{table.New(), put(t, table.New(), 1, 17), lay(full())} {
		for _, page := range []int{0, -1, 2, 48, 33, api.MaxNum + 1, math.MaxInt, math.MinInt} {
			if got, err := table.Del(b, page); err != api.ErrNone || !same(got, b) {
				t.Errorf("Del(%d): %v %d", page, got, err)
			}
		}
	}
}

// plain deletes as the chapter words it: whether a slot lies on the way is found by going it.
func plain(t table.Table, page int) table.Table {
	t = clone(t)
	hole := slices.IndexFunc(t.Slots, func(s table.Slot) bool { return s.Page == page })
	t.Slots[hole] = table.Slot{}
	at := hole
	for range 15 {
		at = (at + 1) % 16
		if t.Slots[at].Page == 0 {
			break
		}
		for way := t.Slots[at].Page % 16; way != at; way = (way + 1) % 16 {
			if way == hole {
				t.Slots[hole], t.Slots[at] = t.Slots[at], table.Slot{}
				hole = at
				break
			}
		}
	}
	return t
}

func TestP7_2_DelOfFullOnes(t *testing.T) {
	r := rand.New(rand.NewSource(1))
	for range 2000 {
		b := table.New()
		for at, n := range r.Perm(40)[:16] {
			b.Slots[at] = table.Slot{Page: n + 1, Frame: at}
		}
		page := b.Slots[r.Intn(16)].Page
		if got, want := del(t, b, page), plain(b, page); !same(got, want) {
			t.Fatalf("Del(%d) of %v: %v, not %v", page, b, got, want)
		}
	}
}

func TestP7_2_Pages(t *testing.T) {
	if l := table.Pages(table.New()); len(l) != 0 {
		t.Errorf("Pages of none: %d", l)
	}
	b := put(t, table.New(), 33, 2, 17, 15, 31, 1, api.MaxNum)
	was := clone(b)
	if l := table.Pages(b); !slices.Equal(l, []int{1, 2, 15, 17, 31, 33, api.MaxNum}) {
		t.Errorf("Pages: %d", l)
	}
	if !same(b, was) {
		t.Errorf("what was handed in was changed: %v", b)
	}
}

func TestP7_3_WhateverIsDone(t *testing.T) {
	r := rand.New(rand.NewSource(2))
	for range 60 {
		b := table.New()
		there := map[int]int{}
		most := 4 + r.Intn(30)
		for n := range 150 {
			page := 1 + r.Intn(most)
			var err, want api.Errno
			_, is := there[page]
			if r.Intn(5) < 3 {
				switch {
				case is:
					want = api.ErrThere
				case len(there) == 16:
					want = api.ErrFull
				default:
					there[page] = n
				}
				b, err = table.Put(b, page, n)
			} else {
				if !is {
					want = api.ErrNone
				} else if got := plain(b, page); !same(got, del(t, b, page)) {
					t.Fatalf("Del(%d) of %v: not %v", page, b, got)
				}
				delete(there, page)
				b, err = table.Del(b, page)
			}
			if err != want || !table.Right(b) || !slices.Equal(table.Pages(b), slices.Sorted(maps.Keys(there))) {
				t.Fatalf("%v: %d, not %d", b, err, want)
			}
			for page := range most + 1 {
				want, is := there[page]
				if frame, ok := table.Find(b, page); ok != is || frame != want {
					t.Fatalf("Find(%d) in %v: %d %t, not %d %t", page, b, frame, ok, want, is)
				}
			}
		}
	}
}
