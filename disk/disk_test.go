package disk_test

import (
	"fmt"
	"math"
	"math/rand"
	"slices"
	"strings"
	"testing"

	"lockkeeper/api"
	"lockkeeper/disk"
)

var noughts = strings.Repeat("\x00", 16)

// data is a sector that no other number has.
func data(n int) string { return fmt.Sprintf("%016d", n) }

// same holds disks against each other; fmt tells nil and empty lists alike.
func same(a, b api.Disk) bool { return fmt.Sprintf("%v", a) == fmt.Sprintf("%v", b) }

func clone(d api.Disk) api.Disk {
	return api.Disk{Sectors: slices.Clone(d.Sectors), Cache: slices.Clone(d.Cache)}
}

func fresh(t *testing.T, sectors int) api.Disk {
	t.Helper()
	d, err := disk.New(sectors)
	if err != api.OK {
		t.Fatalf("New(%d): %d", sectors, err)
	}
	return d
}

func put(t *testing.T, d api.Disk, at int, s string) api.Disk {
	t.Helper()
	d, err := disk.Put(d, api.Write{At: at, Data: s})
	if err != api.OK {
		t.Fatalf("Put at %d: %d", at, err)
	}
	return d
}

// full is a disk of 3 sectors on which n writes wait.
func full(t *testing.T, n int) api.Disk {
	t.Helper()
	d := fresh(t, 3)
	for i := range n {
		d = put(t, d, i%3, data(i))
	}
	return d
}

func wrong() []api.Disk {
	right := func(n int) []string { return slices.Repeat([]string{noughts}, n) }
	return []api.Disk{
		{},
		{Cache: []api.Write{{At: 0, Data: noughts}}},
		{Sectors: right(65)},
		{Sectors: []string{""}},
		{Sectors: []string{noughts[:15]}},
		{Sectors: []string{noughts, noughts + "a"}},
		{Sectors: append(right(3), noughts[1:])},
		{Sectors: right(3), Cache: []api.Write{{At: -1, Data: noughts}}},
		{Sectors: right(3), Cache: []api.Write{{At: 3, Data: noughts}}},
		{Sectors: right(3), Cache: []api.Write{{At: 0, Data: noughts}, {At: math.MaxInt, Data: noughts}}},
		{Sectors: right(3), Cache: []api.Write{{At: 1, Data: noughts[1:]}}},
		{Sectors: right(3), Cache: []api.Write{{At: 1, Data: noughts + "a"}}},
		{Sectors: right(3), Cache: []api.Write{{At: 1, Data: ""}}},
		{Sectors: right(3), Cache: slices.Repeat([]api.Write{{At: 1, Data: noughts}}, 201)},
	}
}

func TestP3_1_New(t *testing.T) {
	for _, n := range []int{1, 2, 35, 63, 64} {
		d := fresh(t, n)
		if want := (api.Disk{Sectors: slices.Repeat([]string{noughts}, n)}); !same(d, want) {
			t.Errorf("New(%d): %v", n, d)
		}
		if !disk.Right(d) {
			t.Errorf("New(%d) is not right", n)
		}
	}
	for _, n := range []int{0, -1, 65, 66, math.MaxInt, math.MinInt} {
		if d, err := disk.New(n); err != api.ErrArg || !same(d, api.Disk{}) {
			t.Errorf("New(%d): %v %d", n, d, err)
		}
	}
}

func TestP3_1_Right(t *testing.T) {
	for _, n := range []int{0, 1, 199, 200} {
		if !disk.Right(full(t, n)) {
			t.Errorf("with %d that wait it is not right", n)
		}
	}
	for i, d := range wrong() {
		if disk.Right(d) {
			t.Errorf("wrong disk %d is right", i)
		}
	}
}

func TestP3_1_OfWrongDisks(t *testing.T) {
	for i, d := range wrong() {
		was := clone(d)
		if s, err := disk.Read(d, 0); s != "" || err != api.ErrArg {
			t.Errorf("Read of wrong disk %d: %v %d", i, s, err)
		}
		if got, err := disk.Put(d, api.Write{At: 0, Data: noughts}); err != api.ErrArg || !same(got, was) {
			t.Errorf("Put on wrong disk %d: %v %d", i, got, err)
		}
		if got := disk.Sync(d); !same(got, was) {
			t.Errorf("Sync of wrong disk %d: %v", i, got)
		}
		if got := disk.Crash(d, []int{0}); !same(got, was) {
			t.Errorf("Crash of wrong disk %d: %v", i, got)
		}
	}
}

func TestP3_2_Read(t *testing.T) {
	d := put(t, fresh(t, 3), 1, data(1))
	d = put(t, d, 2, data(2))
	d = put(t, d, 1, data(3))
	for at, want := range []string{noughts, data(3), data(2)} {
		if s, err := disk.Read(d, at); s != want || err != api.OK {
			t.Errorf("Read %d: %v %d", at, s, err)
		}
	}
	for _, at := range []int{-1, 3, 4, math.MaxInt, math.MinInt} {
		if s, err := disk.Read(d, at); s != "" || err != api.ErrArg {
			t.Errorf("Read %d: %v %d", at, s, err)
		}
	}
}

func TestP3_2_Put(t *testing.T) {
	d := put(t, fresh(t, 2), 0, data(1))
	was := clone(d)
	got := put(t, d, 1, data(2))
	if want := (api.Disk{Sectors: []string{noughts, noughts}, Cache: []api.Write{{At: 0, Data: data(1)}, {At: 1, Data: data(2)}}}); !same(got, want) {
		t.Errorf("Put: %v", got)
	}
	other := put(t, d, 1, data(3))
	if s, _ := disk.Read(got, 1); s != data(2) {
		t.Errorf("a second Put of the same disk turned the first one's: %v, %v", got, other)
	}
	for _, w := range []api.Write{{At: -1, Data: noughts}, {At: 2, Data: noughts}, {At: math.MaxInt, Data: noughts}, {At: 0, Data: ""}, {At: 0, Data: noughts[1:]}, {At: 1, Data: noughts + "a"}} {
		if got, err := disk.Put(d, w); err != api.ErrArg || !same(got, was) {
			t.Errorf("Put %v: %v %d", w, got, err)
		}
	}
	if !same(d, was) {
		t.Errorf("what was handed in was changed: %v", d)
	}
}

func TestP3_2_PutFull(t *testing.T) {
	d := full(t, 199)
	d = put(t, d, 0, data(1000))
	if len(d.Cache) != 200 {
		t.Fatalf("%d wait", len(d.Cache))
	}
	if got, err := disk.Put(d, api.Write{At: 0, Data: noughts}); err != api.ErrFull || !same(got, d) {
		t.Errorf("the 201st: %d", err)
	}
	if _, err := disk.Put(d, api.Write{At: 3, Data: noughts}); err != api.ErrArg {
		t.Errorf("a wrong one, on a full one: %d", err)
	}
	if d = put(t, disk.Sync(d), 0, data(7)); len(d.Cache) != 1 {
		t.Errorf("behind a sync %d wait", len(d.Cache))
	}
}

func TestP3_2_Sync(t *testing.T) {
	d := put(t, fresh(t, 3), 1, data(1))
	d = put(t, d, 1, data(2))
	d = put(t, d, 0, data(3))
	was := clone(d)
	if got, want := disk.Sync(d), (api.Disk{Sectors: []string{data(3), data(2), noughts}}); !same(got, want) {
		t.Errorf("Sync: %v", got)
	}
	if !same(d, was) {
		t.Errorf("what was handed in was changed: %v", d)
	}
}

func TestP3_2_Crash(t *testing.T) {
	d := put(t, fresh(t, 3), 1, data(1))
	d = put(t, d, 1, data(2))
	d = put(t, d, 0, data(3))
	d = put(t, d, 1, data(4))
	was := clone(d)
	for _, c := range []struct {
		keep []int
		want []string
	}{
		{nil, []string{noughts, noughts, noughts}},
		{[]int{0}, []string{noughts, data(1), noughts}},
		{[]int{1, 0}, []string{noughts, data(2), noughts}},
		{[]int{3, 2, 0}, []string{data(3), data(4), noughts}},
		{[]int{2, 2}, []string{data(3), noughts, noughts}},
		{[]int{-1, 4, math.MaxInt, math.MinInt}, []string{noughts, noughts, noughts}},
		{[]int{9, 1, -3}, []string{noughts, data(2), noughts}},
		{[]int{0, 1, 2, 3}, []string{data(3), data(4), noughts}},
	} {
		keep := slices.Clone(c.keep)
		if got := disk.Crash(d, c.keep); !same(got, api.Disk{Sectors: c.want}) {
			t.Errorf("Crash that keeps %d: %v", c.keep, got)
		}
		if !slices.Equal(keep, c.keep) || !same(d, was) {
			t.Errorf("what was handed in was changed: %v %d", d, c.keep)
		}
	}
}

func TestP3_3_SyncsAndCrashes(t *testing.T) {
	r := rand.New(rand.NewSource(1))
	for range 300 {
		sectors := 1 + r.Intn(6)
		d := fresh(t, sectors)
		for i := range r.Intn(12) {
			d = put(t, d, r.Intn(sectors), data(i))
		}
		synced := disk.Sync(d)
		all := r.Perm(len(d.Cache))
		for at := range sectors {
			a, _ := disk.Read(d, at)
			if b, _ := disk.Read(synced, at); a != b || synced.Sectors[at] != b {
				t.Fatalf("Sync turned %d: %v, %v", at, d, synced)
			}
		}
		if len(synced.Cache) != 0 || !same(disk.Crash(synced, all), synced) || !same(disk.Crash(synced, nil), synced) {
			t.Fatalf("a crash turned what was synced: %v", synced)
		}
		if !same(disk.Crash(d, all), synced) {
			t.Fatalf("a crash that keeps all is no sync: %v", d)
		}
	}
}

func TestP3_3_WhatIsLost(t *testing.T) {
	d := put(t, fresh(t, 2), 1, data(1))
	if s, err := disk.Read(disk.Crash(d, nil), 1); s != noughts || err != api.OK {
		t.Errorf("Read behind a crash that keeps nothing: %v %d", s, err)
	}
}

func TestP3_2_PutLeavesSpareRoom(t *testing.T) {
	d := fresh(t, 2)
	d.Cache = append(make([]api.Write, 0, 9), api.Write{At: 1, Data: data(1)})
	put(t, d, 0, data(2))
	disk.Sync(d)
	if spare := d.Cache[:2][1]; spare != (api.Write{}) {
		t.Errorf("a Put writes behind what it was handed: %v", spare)
	}
}
