package device_test

import (
	"fmt"
	"math"
	"math/rand"
	"slices"
	"strings"
	"testing"

	"lockkeeper/api"
	"lockkeeper/device"
	"lockkeeper/disk"
)

var noughts = strings.Repeat("\x00", 16)

// data is a page's 32 bytes that no other number has.
func data(n int) string { return fmt.Sprintf("a%015db%015d", n, n) }

// same holds two values against each other; fmt tells nil and empty lists alike.
func same(a, b any) bool { return fmt.Sprintf("%v", a) == fmt.Sprintf("%v", b) }

func clone(d device.Device) device.Device {
	d.Disk.Sectors = slices.Clone(d.Disk.Sectors)
	d.Disk.Cache = slices.Clone(d.Disk.Cache)
	d.Flight = slices.Clone(d.Flight)
	return d
}

func fresh(t *testing.T, sectors int) device.Device {
	t.Helper()
	d, err := disk.New(sectors)
	if err != api.OK {
		t.Fatalf("New(%d): %d", sectors, err)
	}
	return device.Device{Disk: d}
}

func submit(t *testing.T, d device.Device, kind, page int, s string) device.Device {
	t.Helper()
	was := clone(d)
	got, ticket, err := device.Submit(d, kind, page, s)
	want := clone(d)
	want.Flight = append(want.Flight, device.Request{Ticket: d.Next, Kind: kind, Page: page, Data: s})
	want.Next++
	if err != api.OK || ticket != d.Next || !same(got, want) {
		t.Fatalf("Submit(%d, %d, %q): %v, %d, %d", kind, page, s, got, ticket, err)
	}
	if !same(d, was) {
		t.Fatalf("what was handed in was changed: %v", d)
	}
	return got
}

// finish holds what is common to all that finish well, and tells the device and the request.
func finish(t *testing.T, d device.Device, i int, want api.Errno) (device.Device, device.Request) {
	t.Helper()
	was := clone(d)
	got, r, err := device.Finish(d, i, want == api.ErrFailed)
	if err != want {
		t.Fatalf("Finish(%d): %d, not %d", i, err, want)
	}
	if !same(d, was) {
		t.Fatalf("what was handed in was changed: %v", d)
	}
	if got.Next != d.Next || !same(got.Flight, slices.Delete(was.Flight, i, i+1)) {
		t.Fatalf("Finish(%d) of %v: %v", i, d, got)
	}
	if q := d.Flight[i]; r.Ticket != q.Ticket || r.Kind != q.Kind || r.Page != q.Page {
		t.Fatalf("Finish(%d) told %v", i, r)
	}
	return got, r
}

func with(d device.Device, next int, flight ...device.Request) device.Device {
	d.Next, d.Flight = next, flight
	return d
}

func wrong(t *testing.T) []device.Device {
	d := fresh(t, 35)
	r := func(ticket int) device.Request { return device.Request{Ticket: ticket, Kind: device.Read, Page: 1} }
	bad := func(kind, page int, s string) device.Device {
		return with(d, 1, device.Request{Ticket: 0, Kind: kind, Page: page, Data: s})
	}
	torn := clone(d)
	torn.Disk.Sectors[34] = "short"
	return []device.Device{
		{}, fresh(t, 34), fresh(t, 1), torn,
		with(d, -1), with(d, api.MaxNum+1), with(d, math.MinInt),
		with(d, 1, r(1)), with(d, 0, r(0)), with(d, 1, r(-1)), with(d, 5, r(0), r(0)), with(d, 5, r(2), r(1)), with(d, 5, r(0), r(5)),
		with(d, 9, r(0), r(1), r(2), r(3), r(4)),
		bad(0, 1, ""), bad(4, 1, ""), bad(-1, 0, ""),
		bad(device.Read, 0, ""), bad(device.Read, 17, ""), bad(device.Read, -1, ""), bad(device.Read, 1, "a"), bad(device.Read, 1, data(1)),
		bad(device.Write, 0, data(1)), bad(device.Write, 17, data(1)), bad(device.Write, 1, ""), bad(device.Write, 1, data(1)[1:]), bad(device.Write, 1, data(1)+"a"),
		bad(device.Sync, 1, ""), bad(device.Sync, -1, ""), bad(device.Sync, 0, data(1)), bad(device.Sync, 0, "a"),
	}
}

func TestP4_1_Right(t *testing.T) {
	d := fresh(t, 35)
	r := func(ticket int) device.Request { return device.Request{Ticket: ticket, Kind: device.Read, Page: 16} }
	for i, d := range []device.Device{
		d, fresh(t, 36), fresh(t, 64), with(d, api.MaxNum), with(d, api.MaxNum, r(0), r(api.MaxNum-1)),
		with(d, 1, r(0)), with(d, 8, r(1), r(3), r(4), r(7)),
		with(d, 3, device.Request{Ticket: 0, Kind: device.Write, Page: 1, Data: data(1)}, device.Request{Ticket: 1, Kind: device.Sync}, device.Request{Ticket: 2, Kind: device.Write, Page: 16, Data: data(2)}),
	} {
		if !device.Right(d) {
			t.Errorf("device %d is not right", i)
		}
	}
	for i, d := range wrong(t) {
		if device.Right(d) {
			t.Errorf("wrong device %d is right", i)
		}
	}
}

func TestP4_1_Submit(t *testing.T) {
	d := fresh(t, 35)
	d = submit(t, d, device.Write, 1, data(1))
	d = submit(t, d, device.Read, 16, "")
	d = submit(t, d, device.Sync, 0, "")
	d = submit(t, d, device.Write, 16, data(2))
	for _, next := range []int{0, 7, api.MaxNum - 1} {
		submit(t, with(fresh(t, 40), next), device.Read, 1, "")
	}
	a := submit(t, with(d, d.Next, d.Flight[:2]...), device.Read, 5, "")
	submit(t, with(d, d.Next, d.Flight[:2]...), device.Read, 6, "")
	if a.Flight[2].Page != 5 {
		t.Error("a second Submit turned the first one's")
	}
}

func refused(t *testing.T, d device.Device, kind, page int, s string, want api.Errno) {
	t.Helper()
	was := clone(d)
	got, ticket, err := device.Submit(d, kind, page, s)
	if err != want || ticket != 0 || !same(got, was) {
		t.Errorf("Submit(%d, %d, %q): %d %d, not %d", kind, page, s, ticket, err, want)
	}
}

func TestP4_1_SubmitRefuses(t *testing.T) {
	for _, d := range wrong(t) {
		refused(t, d, device.Read, 1, "", api.ErrArg)
	}
	d := fresh(t, 35)
	refused(t, with(d, api.MaxNum), device.Read, 1, "", api.ErrArg)
	full := d
	for range 4 {
		full = submit(t, full, device.Read, 1, "")
	}
	refused(t, full, device.Read, 1, "", api.ErrBusy)
	refused(t, full, device.Sync, 0, "", api.ErrBusy)
	for _, d := range []device.Device{d, full} {
		for _, kind := range []int{0, 4, -1, math.MaxInt} {
			refused(t, d, kind, 0, "", api.ErrArg)
			refused(t, d, kind, 1, "", api.ErrArg)
			refused(t, d, kind, 1, data(1), api.ErrArg)
		}
		for _, page := range []int{0, -1, 17, math.MaxInt, math.MinInt} {
			refused(t, d, device.Read, page, "", api.ErrArg)
			refused(t, d, device.Write, page, data(1), api.ErrArg)
		}
		refused(t, d, device.Read, 1, "a", api.ErrArg)
		refused(t, d, device.Read, 1, data(1), api.ErrArg)
		for _, s := range []string{"", "a", data(1)[1:], data(1) + "a"} {
			refused(t, d, device.Write, 1, s, api.ErrArg)
		}
		for _, page := range []int{1, -1, 16} {
			refused(t, d, device.Sync, page, "", api.ErrArg)
		}
		refused(t, d, device.Sync, 0, data(1), api.ErrArg)
	}
}

func TestP4_2_FinishRefuses(t *testing.T) {
	for i, d := range wrong(t) {
		for _, fault := range []bool{false, true} {
			if got, r, err := device.Finish(d, 0, fault); err != api.ErrArg || r != (device.Request{}) || !same(got, d) {
				t.Errorf("Finish of wrong device %d: %v %d", i, r, err)
			}
		}
	}
	d := submit(t, fresh(t, 35), device.Read, 1, "")
	for _, i := range []int{-1, 1, 4, math.MaxInt, math.MinInt} {
		if got, r, err := device.Finish(d, i, i == 1); err != api.ErrArg || r != (device.Request{}) || !same(got, d) {
			t.Errorf("Finish(%d): %v %d", i, r, err)
		}
	}
}

func TestP4_2_Homes(t *testing.T) {
	for page := 1; page <= 16; page++ {
		d := fresh(t, 35)
		for i := range d.Disk.Sectors {
			d.Disk.Sectors[i] = fmt.Sprintf("%016d", i)
		}
		was := clone(d)
		_, r := finish(t, submit(t, d, device.Read, page, ""), 0, api.OK)
		if want := was.Disk.Sectors[2*page+1] + was.Disk.Sectors[2*page+2]; r.Data != want {
			t.Errorf("the page %d reads %q", page, r.Data)
		}
		d, r = finish(t, submit(t, d, device.Write, page, data(page)), 0, api.OK)
		want := []api.Write{{At: 2*page + 1, Data: data(page)[:16]}, {At: 2*page + 2, Data: data(page)[16:]}}
		if !same(d.Disk.Cache, want) || !same(d.Disk.Sectors, was.Disk.Sectors) || r.Data != data(page) {
			t.Errorf("the page %d is written %v, told %v", page, d.Disk, r)
		}
		d, r = finish(t, submit(t, d, device.Read, page, ""), 0, api.OK)
		if r.Data != data(page) {
			t.Errorf("what waits is not read: %q", r.Data)
		}
		was = clone(d)
		d, r = finish(t, submit(t, d, device.Sync, 0, ""), 0, api.OK)
		if !same(d.Disk, disk.Sync(was.Disk)) || r.Data != "" {
			t.Errorf("Sync: %v %v", d.Disk, r)
		}
	}
}

func TestP4_2_Faults(t *testing.T) {
	d := submit(t, fresh(t, 35), device.Write, 2, data(1))
	d, _ = finish(t, d, 0, api.OK)
	for _, c := range []struct {
		kind, page int
		s          string
	}{{device.Read, 2, ""}, {device.Write, 2, data(2)}, {device.Sync, 0, ""}} {
		was := clone(d)
		got, r := finish(t, submit(t, d, c.kind, c.page, c.s), 0, api.ErrFailed)
		if !same(got.Disk, was.Disk) || r.Data != c.s {
			t.Errorf("a fault of the kind %d: %v, told %v", c.kind, got.Disk, r)
		}
	}
}

func TestP4_2_Full(t *testing.T) {
	for _, wait := range []int{198, 199, 200} {
		d := fresh(t, 35)
		d.Disk.Cache = slices.Repeat([]api.Write{{At: 0, Data: noughts}}, wait)
		d = submit(t, d, device.Write, 3, data(3))
		want := api.OK
		if wait > 198 {
			want = api.ErrFull
		}
		got, r := finish(t, d, 0, want)
		writes := []api.Write{{At: 7, Data: data(3)[:16]}, {At: 8, Data: data(3)[16:]}}
		if !same(got.Disk.Cache, append(slices.Clone(d.Disk.Cache), writes[:200-wait]...)) || r.Data != data(3) {
			t.Errorf("%d wait: then %d, told %v", wait, len(got.Disk.Cache), r)
		}
	}
}

func TestP4_2_OutOfOrder(t *testing.T) {
	d := fresh(t, 35)
	for n := range 4 {
		d = submit(t, d, device.Write, 5, data(n))
	}
	for _, i := range []int{3, 1, 0, 0} {
		d, _ = finish(t, d, i, api.OK)
	}
	if _, r := finish(t, submit(t, d, device.Read, 5, ""), 0, api.OK); r.Data != data(2) {
		t.Errorf("what was finished last is not what is read: %q", r.Data)
	}
}

func TestP4_3_Crash(t *testing.T) {
	d := fresh(t, 35)
	for n := range 3 {
		d, _ = finish(t, submit(t, d, device.Write, 1+n, data(n)), 0, api.OK)
	}
	d = submit(t, d, device.Write, 9, data(9))
	d = submit(t, d, device.Read, 1, "")
	was := clone(d)
	for _, keep := range [][]int{nil, {0}, {0, 1, 2, 3, 4, 5}, {5, 2, -1, 77}} {
		got := device.Crash(d, keep)
		if want := (device.Device{Disk: disk.Crash(was.Disk, keep), Next: was.Next}); !same(got, want) {
			t.Errorf("Crash that keeps %d: %v", keep, got)
		}
		if !same(d, was) {
			t.Errorf("what was handed in was changed: %v", d)
		}
	}
	for i, d := range wrong(t) {
		if got := device.Crash(d, []int{0}); !same(got, d) {
			t.Errorf("Crash of wrong device %d: %v", i, got)
		}
	}
}

func TestP4_4_WhatIsWrittenIsRead(t *testing.T) {
	r := rand.New(rand.NewSource(1))
	d := fresh(t, 35)
	pages := make([]string, 17)
	for i := range pages {
		pages[i] = noughts + noughts
	}
	told := make([]int, 3000)
	for n := range 3000 {
		if r.Intn(2) == 0 && len(d.Flight) < 4 {
			kind, page, s := 1+r.Intn(3), 1+r.Intn(16), ""
			switch kind {
			case device.Write:
				s = data(n)
			case device.Sync:
				page = 0
			}
			d = submit(t, d, kind, page, s)
		} else if len(d.Flight) > 0 {
			want := api.OK
			if r.Intn(4) == 0 {
				want = api.ErrFailed
			} else if len(d.Disk.Cache) > 190 {
				d.Disk = disk.Sync(d.Disk)
			}
			var q device.Request
			d, q = finish(t, d, r.Intn(len(d.Flight)), want)
			told[q.Ticket]++
			if want == api.OK && q.Kind == device.Write {
				pages[q.Page] = q.Data
			}
			if want == api.OK && q.Kind == device.Read && q.Data != pages[q.Page] {
				t.Fatalf("the page %d reads %q, not %q", q.Page, q.Data, pages[q.Page])
			}
		}
	}
	for len(d.Flight) > 0 {
		var q device.Request
		d, q = finish(t, d, 0, api.ErrFailed)
		told[q.Ticket]++
	}
	for ticket, n := range told[:d.Next] {
		if n != 1 {
			t.Errorf("the ticket %d was told %d times", ticket, n)
		}
	}
}
