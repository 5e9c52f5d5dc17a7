package store_test

import (
	"fmt"
	"math"
	"slices"
	"strings"
	"testing"

	"lockkeeper/api"
	"lockkeeper/disk"
	"lockkeeper/journal"
	"lockkeeper/page"
	"lockkeeper/store"
)

// same holds two values against each other; fmt tells nil and empty lists alike.
func same(a, b any) bool { return fmt.Sprintf("%v", a) == fmt.Sprintf("%v", b) }

func clone(d api.Disk) api.Disk {
	return api.Disk{Sectors: slices.Clone(d.Sectors), Cache: slices.Clone(d.Cache)}
}

func fresh(t *testing.T, sectors int) api.Disk {
	t.Helper()
	d, err := disk.New(sectors)
	if err != api.OK {
		t.Fatal(err)
	}
	return d
}

func set(t *testing.T, d api.Disk, pages ...api.Page) api.Disk {
	t.Helper()
	for _, p := range pages {
		was := clone(d)
		got, err := store.Set(d, p)
		s, _ := page.Put(p)
		if want, _ := journal.Commit(d, p.Id, s); err != api.OK || !same(got, want) {
			t.Fatalf("Set(%v): %v %d", p, got, err)
		}
		if !same(d, was) {
			t.Fatalf("what was handed in was changed: %v", d)
		}
		d = got
	}
	return d
}

func of(id, version int, body string) api.Page {
	return api.Page{Id: id, Version: version, Body: body}
}

func wrongDisks(t *testing.T) []api.Disk {
	torn := fresh(t, 35)
	torn.Sectors[34] = "short"
	return []api.Disk{{}, fresh(t, 34), torn}
}

func wrongPages() []api.Page {
	return []api.Page{
		of(0, 1, ""), of(-1, 1, ""), of(17, 1, ""), of(1, -1, ""), of(1, api.MaxNum+1, ""), of(1, 0, "a"), of(1, 1, "0123456789abcdefg"), of(math.MaxInt, 1, ""),
	}
}

func TestP13_1_Get(t *testing.T) {
	d := set(t, fresh(t, 35), of(1, 1, ""), of(16, api.MaxNum, "0123456789abcdef"), of(7, 5, "a\x00"))
	for _, p := range []api.Page{of(1, 1, ""), of(16, api.MaxNum, "0123456789abcdef"), of(7, 5, "a\x00")} {
		if got, err := store.Get(d, p.Id); got != p || err != api.OK {
			t.Errorf("Get(%d): %v %d", p.Id, got, err)
		}
	}
	refused := func(d api.Disk, id int, want api.Errno) {
		t.Helper()
		if p, err := store.Get(d, id); p != (api.Page{}) || err != want {
			t.Errorf("Get(%d): %v %d, not %d", id, p, err, want)
		}
	}
	refused(d, 2, api.ErrNone)
	refused(d, 15, api.ErrNone)
	for _, id := range []int{0, -1, 17, math.MaxInt, math.MinInt} {
		refused(d, id, api.ErrArg)
	}
	for _, d := range wrongDisks(t) {
		refused(d, 1, api.ErrArg)
	}
}

func TestP13_1_GetCorrupt(t *testing.T) {
	d := set(t, fresh(t, 35), of(1, 1, "ab"), of(2, 3, ""), of(4, 1, "z"))
	d.Sectors[5], d.Sectors[6] = d.Sectors[3], d.Sectors[4]
	d.Sectors[10] = strings.Repeat("z", 16)
	d.Sectors[11] = strings.Repeat("\x00", 15) + "a"
	for id, want := range map[int]api.Errno{1: api.OK, 2: api.ErrCorrupt, 4: api.ErrCorrupt, 5: api.ErrCorrupt, 6: api.ErrNone} {
		if p, err := store.Get(d, id); err != want || err != api.OK && p != (api.Page{}) {
			t.Errorf("Get(%d): %v %d, not %d", id, p, err, want)
		}
	}
	if l := store.List(d); !slices.Equal(l, []api.Page{of(1, 1, "ab")}) {
		t.Errorf("List: %v", l)
	}
}

func TestP13_1_Set(t *testing.T) {
	d := set(t, fresh(t, 40), of(3, 1, "a"), of(3, 2, "b"), of(16, 1, ""))
	if p, err := store.Get(d, 3); p != of(3, 2, "b") || err != api.OK {
		t.Errorf("Get: %v %d", p, err)
	}
	for _, p := range append(wrongPages(), api.Page{}, of(1, 0, "")) {
		if got, err := store.Set(d, p); err != api.ErrArg || !same(got, d) {
			t.Errorf("Set(%v): %d", p, err)
		}
	}
	for i, d := range wrongDisks(t) {
		if got, err := store.Set(d, of(1, 1, "")); err != api.ErrArg || !same(got, d) {
			t.Errorf("Set on wrong disk %d: %d", i, err)
		}
	}
}

func TestP13_1_Del(t *testing.T) {
	d := set(t, fresh(t, 35), of(3, 1, "a"), of(4, 1, "b"))
	d.Sectors[11] = strings.Repeat("z", 16)
	was := clone(d)
	for _, id := range []int{3, 5, 6} {
		got, err := store.Del(d, id)
		want, _ := journal.Commit(d, id, strings.Repeat("\x00", 32))
		if err != api.OK || !same(got, want) {
			t.Errorf("Del(%d): %v %d", id, got, err)
		}
		if _, err := store.Get(got, id); err != api.ErrNone {
			t.Errorf("Get behind Del(%d): %d", id, err)
		}
		if p, _ := store.Get(got, 4); p != of(4, 1, "b") {
			t.Errorf("Del(%d) turned another one: %v", id, p)
		}
	}
	if !same(d, was) {
		t.Errorf("what was handed in was changed: %v", d)
	}
	for _, id := range []int{0, -1, 17, math.MaxInt, math.MinInt} {
		if got, err := store.Del(d, id); err != api.ErrArg || !same(got, d) {
			t.Errorf("Del(%d): %d", id, err)
		}
	}
	for i, d := range wrongDisks(t) {
		if got, err := store.Del(d, 1); err != api.ErrArg || !same(got, d) {
			t.Errorf("Del on wrong disk %d: %d", i, err)
		}
	}
}

func TestP13_1_Steps(t *testing.T) {
	d := set(t, fresh(t, 35), of(3, 1, "a"))
	for _, p := range []api.Page{of(3, 2, "b"), of(16, 1, ""), of(1, api.MaxNum, "0123456789abcdef")} {
		s, _ := page.Put(p)
		want, _ := journal.Plan(d, p.Id, s)
		l := store.Steps(d, p)
		if len(l) != 10 || !slices.Equal(l, want) {
			t.Errorf("Steps(%v): %v", p, l)
		}
		if !same(journal.Run(d, l, len(l)), set(t, d, p)) {
			t.Errorf("Steps(%v) do not do what Set does", p)
		}
	}
	for _, id := range []int{3, 1, 16} {
		want, _ := journal.Plan(d, id, strings.Repeat("\x00", 32))
		l := store.Steps(d, api.Page{Id: id})
		if len(l) != 10 || !slices.Equal(l, want) {
			t.Errorf("Steps of noughts, of %d: %v", id, l)
		}
	}
	for _, p := range append(wrongPages(), api.Page{}, api.Page{Id: 17}, api.Page{Id: -1}) {
		if l := store.Steps(d, p); len(l) != 0 {
			t.Errorf("Steps(%v): %v", p, l)
		}
	}
	for i, d := range wrongDisks(t) {
		if l := append(store.Steps(d, of(1, 1, "")), store.Steps(d, of(1, 0, ""))...); len(l) != 0 {
			t.Errorf("Steps on wrong disk %d: %v", i, l)
		}
	}
}

func TestP13_1_List(t *testing.T) {
	d := fresh(t, 35)
	if l := store.List(d); len(l) != 0 {
		t.Errorf("List of a new disk: %v", l)
	}
	d = set(t, d, of(16, 2, "z"), of(1, 1, ""), of(9, 4, "y"))
	d, _ = store.Del(d, 9)
	d = set(t, d, of(2, 1, "x"))
	if l := store.List(d); !slices.Equal(l, []api.Page{of(1, 1, ""), of(2, 1, "x"), of(16, 2, "z")}) {
		t.Errorf("List: %v", l)
	}
	all := fresh(t, 64)
	for id := 16; id >= 1; id-- {
		all = set(t, all, of(id, id, ""))
	}
	if l := store.List(all); len(l) != 16 || l[0].Id != 1 || l[15].Id != 16 {
		t.Errorf("List of all: %v", l)
	}
	for i, d := range wrongDisks(t) {
		if l := store.List(d); len(l) != 0 {
			t.Errorf("List of wrong disk %d: %v", i, l)
		}
	}
}

// states are all disks that a crash may leave behind.
func states(d api.Disk) []api.Disk {
	var l []api.Disk
	for bits := range 1 << len(d.Cache) {
		var keep []int
		for i := range d.Cache {
			if bits>>i&1 == 1 {
				keep = append(keep, i)
			}
		}
		l = append(l, disk.Crash(d, keep))
	}
	return l
}

func TestP13_2_CutOffAnywhere(t *testing.T) {
	was := set(t, fresh(t, 35), of(1, 1, "a"), of(2, 7, "0123456789abcdef"), of(16, 3, ""))
	was.Sectors[9], was.Sectors[23] = strings.Repeat("z", 16), strings.Repeat("y", 16)
	for _, p := range []api.Page{of(2, 8, "new"), of(2, 0, ""), of(5, 1, ""), of(5, 0, ""), of(16, 4, "fedcba9876543210"), of(4, 1, "q"), of(4, 0, ""), of(1, 2, "a")} {
		want := p
		if p.Version == 0 {
			want = api.Page{}
		}
		l := store.Steps(was, p)
		seen := map[api.Page]bool{}
		for most := range len(l) + 1 {
			for _, crashed := range states(journal.Run(was, l, most)) {
				d := journal.Recover(crashed)
				for id := 1; id <= 16; id++ {
					old, oldErr := store.Get(was, id)
					got, err := store.Get(d, id)
					if id == p.Id {
						seen[got] = true
						if got == want && (err == api.OK) == (p.Version > 0) && err != api.ErrCorrupt {
							continue
						}
					}
					if got != old || err != oldErr {
						t.Fatalf("%v, cut off behind %d: the page %d is %v %d", p, most, id, got, err)
					}
				}
			}
		}
		if !seen[want] {
			t.Errorf("%v is never written", p)
		}
	}
}
