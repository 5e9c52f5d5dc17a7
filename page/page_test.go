package page_test

import (
	"encoding/binary"
	"hash/crc32"
	"math"
	"strings"
	"testing"

	"lockkeeper/api"
	"lockkeeper/page"
)

// raw lays bytes out as the chapter words it, be they a page's or not.
func raw(id, version, length uint32, body string) string {
	b := make([]byte, 32)
	binary.LittleEndian.PutUint32(b[0:], id)
	binary.LittleEndian.PutUint32(b[4:], version)
	binary.LittleEndian.PutUint32(b[8:], length)
	copy(b[16:], body)
	binary.LittleEndian.PutUint32(b[12:], crc32.ChecksumIEEE([]byte(string(b[:12])+string(b[16:]))))
	return string(b)
}

func pages() []api.Page {
	var l []api.Page
	for _, id := range []int{1, 2, 9, 15, 16} {
		for _, version := range []int{1, 255, 256, 65536, 1 << 24, api.MaxNum - 1, api.MaxNum} {
			for _, body := range []string{"", "a", "\x00", "a\x00", "0123456789abcde", "0123456789abcdef", strings.Repeat("\x00", 16), strings.Repeat("\xff", 16)} {
				l = append(l, api.Page{Id: id, Version: version, Body: body})
			}
		}
	}
	return l
}

func wrong() []api.Page {
	return []api.Page{
		{},
		{Id: 0, Version: 1}, {Id: -1, Version: 1}, {Id: 17, Version: 1}, {Id: math.MaxInt, Version: 1}, {Id: math.MinInt, Version: 1},
		{Id: 1, Version: 0}, {Id: 1, Version: -1}, {Id: 1, Version: api.MaxNum + 1}, {Id: 1, Version: math.MinInt}, {Id: 1, Version: 1<<32 + 1},
		{Id: 1<<32 + 1, Version: 1},
		{Id: 1, Version: 1, Body: "0123456789abcdefg"}, {Id: 1, Version: 1, Body: strings.Repeat("\x00", 17)},
	}
}

func TestP2_1_Right(t *testing.T) {
	for _, p := range pages() {
		if !page.Right(p) {
			t.Errorf("%v is not right", p)
		}
	}
	for _, p := range wrong() {
		if page.Right(p) {
			t.Errorf("%v is right", p)
		}
	}
}

func TestP2_1_Put(t *testing.T) {
	for _, p := range pages() {
		s, err := page.Put(p)
		if want := raw(uint32(p.Id), uint32(p.Version), uint32(len(p.Body)), p.Body); s != want || err != api.OK {
			t.Errorf("Put(%v): %q %d, not %q", p, s, err, want)
		}
	}
	for _, p := range wrong() {
		if s, err := page.Put(p); s != "" || err != api.ErrArg {
			t.Errorf("Put(%v): %q %d", p, s, err)
		}
	}
}

func refused(t *testing.T, s string, want api.Errno) {
	t.Helper()
	if p, err := page.Take(s); p != (api.Page{}) || err != want {
		t.Errorf("Take(%q): %v %d, not %d", s, p, err, want)
	}
}

func TestP2_1_TakeRefuses(t *testing.T) {
	right := raw(3, 4, 2, "ab")
	for _, n := range []int{0, 1, 16, 31} {
		refused(t, right[:n], api.ErrForm)
		refused(t, strings.Repeat("\x00", n), api.ErrForm)
	}
	refused(t, right+"\x00", api.ErrForm)
	refused(t, right+right, api.ErrForm)
	refused(t, strings.Repeat("\x00", 32), api.ErrNone)
	refused(t, strings.Repeat("0", 32), api.ErrCorrupt)
	refused(t, strings.Repeat("\xff", 32), api.ErrCorrupt)
}

func TestP2_1_TakeCorrupt(t *testing.T) {
	for _, s := range []string{
		raw(0, 1, 0, ""), raw(17, 1, 0, ""), raw(1<<32-1, 1, 0, ""), raw(257, 1, 0, ""),
		raw(1, 0, 0, ""), raw(1, 1<<31, 0, ""), raw(1, 1<<32-1, 0, ""),
		raw(1, 1, 17, "0123456789abcdef"), raw(1, 1, 1<<32-1, ""), raw(1, 1, 1<<31, ""), raw(1, 1, 256, ""),
		raw(1, 1, 0, "a"), raw(1, 1, 2, "abc"), raw(1, 1, 15, "0123456789abcdef"), raw(1, 1, 0, strings.Repeat("\x00", 15)+"a"),
		raw(0, 0, 0, ""),
	} {
		refused(t, s, api.ErrCorrupt)
	}
	if p, err := page.Take(raw(1, 1, 2, "a")); err != api.OK || p.Body != "a\x00" {
		t.Errorf("a body that ends with a nought: %v %d", p, err)
	}
}

func TestP2_2_WhatIsPutIsTaken(t *testing.T) {
	for _, p := range pages() {
		s, _ := page.Put(p)
		if got, err := page.Take(s); got != p || err != api.OK {
			t.Errorf("Take(Put(%v)): %v %d", p, got, err)
		}
	}
}

func TestP2_2_OneBitTurned(t *testing.T) {
	for _, p := range pages() {
		s, _ := page.Put(p)
		for bit := range 8 * len(s) {
			b := []byte(s)
			b[bit/8] ^= 1 << (bit % 8)
			refused(t, string(b), api.ErrCorrupt)
		}
	}
}
