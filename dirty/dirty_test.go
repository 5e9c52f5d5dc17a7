package dirty_test

import (
	"math"
	"math/rand"
	"slices"
	"testing"

	"lockkeeper/api"
	"lockkeeper/dirty"
)

func of(l ...[2]int) []dirty.Item {
	var items []dirty.Item
	for _, x := range l {
		items = append(items, dirty.Item{Page: x[0], Since: x[1]})
	}
	return items
}

func all() []dirty.Item {
	var l []dirty.Item
	for page := 16; page >= 1; page-- {
		l = append(l, dirty.Item{Page: page, Since: 20 - page})
	}
	return l
}

func wrong() [][]dirty.Item {
	return [][]dirty.Item{
		of([2]int{0, 0}), of([2]int{17, 0}), of([2]int{-1, 0}), of([2]int{math.MaxInt, 0}), of([2]int{math.MinInt, 0}),
		of([2]int{1, -1}), of([2]int{1, api.MaxNum + 1}), of([2]int{1, math.MinInt}), of([2]int{1, math.MaxInt}),
		of([2]int{1, 5}, [2]int{1, 6}), of([2]int{1, 5}, [2]int{2, 5}, [2]int{1, 5}), of([2]int{1, 5}, [2]int{2, 4}), of([2]int{1, 5}, [2]int{2, 6}, [2]int{3, 5}),
		append(all(), dirty.Item{Page: 3, Since: 100}),
	}
}

func TestP14_1_Right(t *testing.T) {
	for i, l := range [][]dirty.Item{nil, {}, of([2]int{1, 0}), of([2]int{16, api.MaxNum}), of([2]int{3, 5}, [2]int{1, 5}, [2]int{2, 6}), all()} {
		if !dirty.Right(l) {
			t.Errorf("items %d are not right", i)
		}
	}
	for i, l := range wrong() {
		if dirty.Right(l) {
			t.Errorf("wrong items %d are right", i)
		}
	}
}

func TestP14_1_Mark(t *testing.T) {
	mark := func(l []dirty.Item, page, now int, want ...[2]int) []dirty.Item {
		t.Helper()
		was := slices.Clone(l)
		got, err := dirty.Mark(l, page, now)
		if err != api.OK || !slices.Equal(got, of(want...)) {
			t.Errorf("Mark(%v, %d, %d): %v %d", was, page, now, got, err)
		}
		if !slices.Equal(l, was) {
			t.Errorf("what was handed in was changed: %v", l)
		}
		return got
	}
	l := mark(nil, 3, 5, [2]int{3, 5})
	l = mark(l, 16, 5, [2]int{3, 5}, [2]int{16, 5})
	l = mark(l, 1, api.MaxNum-1, [2]int{3, 5}, [2]int{16, 5}, [2]int{1, api.MaxNum - 1})
	mark(l, 3, api.MaxNum, [2]int{3, 5}, [2]int{16, 5}, [2]int{1, api.MaxNum - 1})
	a := mark(l, 2, api.MaxNum, [2]int{3, 5}, [2]int{16, 5}, [2]int{1, api.MaxNum - 1}, [2]int{2, api.MaxNum})
	mark(l, 4, api.MaxNum, [2]int{3, 5}, [2]int{16, 5}, [2]int{1, api.MaxNum - 1}, [2]int{4, api.MaxNum})
	if a[3].Page != 2 {
		t.Errorf("a second Mark turned the first one's: %v", a)
	}
	mark(nil, 1, 0, [2]int{1, 0})
	mark(of([2]int{3, 5}, [2]int{4, 9}), 3, 9, [2]int{3, 5}, [2]int{4, 9})
}

func TestP14_1_MarkRefuses(t *testing.T) {
	refused := func(l []dirty.Item, page, now int) {
		t.Helper()
		if got, err := dirty.Mark(l, page, now); err != api.ErrArg || !slices.Equal(got, l) {
			t.Errorf("Mark(%v, %d, %d): %v %d", l, page, now, got, err)
		}
	}
	for _, l := range wrong() {
		refused(l, 5, 200)
	}
	l := of([2]int{3, 5}, [2]int{4, 9})
	for _, page := range []int{0, -1, 17, math.MaxInt, math.MinInt} {
		refused(nil, page, 9)
		refused(l, page, 9)
	}
	for _, now := range []int{-1, api.MaxNum + 1, math.MaxInt, math.MinInt} {
		refused(nil, 1, now)
		refused(l, 1, now)
		refused(l, 3, now)
	}
	for _, page := range []int{1, 3} {
		refused(of([2]int{3, 5}), page, 4)
	}
	for _, page := range []int{1, 3, 4} {
		refused(l, page, 8)
		refused(l, page, 0)
	}
}

func TestP14_1_SpareRoomIsLeft(t *testing.T) {
	l := append(make([]dirty.Item, 0, 9), of([2]int{3, 5})...)
	if _, err := dirty.Mark(l, 4, 9); err != api.OK || l[:2][1] != (dirty.Item{}) {
		t.Errorf("a Mark writes behind what it was handed: %v", l[:2])
	}
}

func TestP14_1_Clean(t *testing.T) {
	l := of([2]int{3, 5}, [2]int{4, 9}, [2]int{1, 9})
	was := slices.Clone(l)
	for page, want := range map[int][]dirty.Item{3: was[1:], 4: of([2]int{3, 5}, [2]int{1, 9}), 1: was[:2]} {
		if got, err := dirty.Clean(l, page); err != api.OK || !slices.Equal(got, want) {
			t.Errorf("Clean(%d): %v %d", page, got, err)
		}
		if !slices.Equal(l, was) {
			t.Fatalf("what was handed in was changed: %v", l)
		}
	}
	for _, page := range []int{0, 2, -1, 17, math.MaxInt} {
		if got, err := dirty.Clean(l, page); err != api.ErrNone || !slices.Equal(got, l) {
			t.Errorf("Clean(%d): %v %d", page, got, err)
		}
		if got, err := dirty.Clean(nil, page); err != api.ErrNone || len(got) != 0 {
			t.Errorf("Clean(%d) of none: %v %d", page, got, err)
		}
	}
	for _, l := range wrong() {
		for _, page := range []int{1, 99} {
			if got, err := dirty.Clean(l, page); err != api.ErrArg || !slices.Equal(got, l) {
				t.Errorf("Clean of %v: %v %d", l, got, err)
			}
		}
	}
}

func TestP14_2_Since(t *testing.T) {
	l := of([2]int{3, 0}, [2]int{4, 9}, [2]int{1, api.MaxNum})
	for page, want := range map[int]int{3: 0, 4: 9, 1: api.MaxNum} {
		if since, ok := dirty.Since(l, page); since != want || !ok {
			t.Errorf("Since(%d): %d %t", page, since, ok)
		}
	}
	for _, page := range []int{0, 2, -1, 17, math.MaxInt} {
		if since, ok := dirty.Since(l, page); since != 0 || ok {
			t.Errorf("Since(%d): %d %t", page, since, ok)
		}
	}
	for _, l := range wrong() {
		if since, ok := dirty.Since(l, l[0].Page); since != 0 || ok {
			t.Errorf("Since of %v: %d %t", l, since, ok)
		}
	}
}

func TestP14_2_Due(t *testing.T) {
	l := of([2]int{3, 5}, [2]int{16, 5}, [2]int{4, 9}, [2]int{1, api.MaxNum})
	for _, c := range []struct {
		now, age int
		want     []int
	}{
		{10, 5, []int{3, 16}}, {10, 6, nil}, {10, 4, []int{3, 16}}, {10, 1, []int{3, 16, 4}}, {10, 0, []int{3, 16, 4}}, {9, 0, []int{3, 16, 4}}, {8, 0, []int{3, 16}},
		{5, 0, []int{3, 16}}, {5, 1, nil}, {4, 0, nil}, {0, 0, nil}, {10, -1, nil}, {10, math.MinInt, nil}, {api.MaxNum, 0, []int{3, 16, 4, 1}}, {api.MaxNum, 1, []int{3, 16, 4}},
		{-1, 0, nil}, {math.MinInt, 0, nil}, {math.MinInt, math.MaxInt, nil}, {math.MinInt + 8, math.MaxInt - 8, nil}, {math.MaxInt, math.MaxInt, nil}, {math.MaxInt, math.MaxInt - 5, []int{3, 16}}, {math.MaxInt, 0, []int{3, 16, 4, 1}},
	} {
		if got := dirty.Due(l, c.now, c.age); !slices.Equal(got, c.want) {
			t.Errorf("Due(%d, %d): %d", c.now, c.age, got)
		}
	}
	for _, l := range wrong() {
		if got := dirty.Due(l, api.MaxNum, 0); len(got) != 0 {
			t.Errorf("Due of %v: %d", l, got)
		}
	}
	if got := dirty.Due(nil, 5, 0); len(got) != 0 {
		t.Errorf("Due of none: %d", got)
	}
}

func TestP14_2_Over(t *testing.T) {
	l := of([2]int{3, 5}, [2]int{4, 9})
	for hard, want := range map[int]bool{-1: true, 0: true, 1: true, 2: true, 3: false, math.MaxInt: false, math.MinInt: true} {
		if got := dirty.Over(l, hard); got != want {
			t.Errorf("Over(%d): %t", hard, got)
		}
	}
	if !dirty.Over(nil, 0) || dirty.Over(nil, 1) {
		t.Error("Over of none")
	}
	for _, l := range wrong() {
		if dirty.Over(l, 0) || dirty.Over(l, -1) {
			t.Errorf("Over of %v", l)
		}
	}
}

func TestP14_3_FirstMarkedFirstDue(t *testing.T) {
	r := rand.New(rand.NewSource(1))
	for range 200 {
		var l []dirty.Item
		since := map[int]int{}
		now := 0
		for range 60 {
			now += r.Intn(3)
			page := 1 + r.Intn(16)
			if r.Intn(3) > 0 {
				l, _ = dirty.Mark(l, page, now)
				if _, ok := since[page]; !ok {
					since[page] = now
				}
			} else {
				l, _ = dirty.Clean(l, page)
				delete(since, page)
			}
			if !dirty.Right(l) || len(l) != len(since) {
				t.Fatalf("%v is not right", l)
			}
			for page := range 17 {
				want, is := since[page]
				if got, ok := dirty.Since(l, page); ok != is || got != want {
					t.Fatalf("Since(%v, %d): %d %t", l, page, got, ok)
				}
			}
			due := dirty.Due(l, now, r.Intn(20))
			for i, page := range due {
				if l[i].Page != page {
					t.Fatalf("Due of %v: %d", l, due)
				}
			}
		}
	}
}
