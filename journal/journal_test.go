package journal_test

import (
	"fmt"
	"math"
	"slices"
	"strings"
	"testing"

	"lockkeeper/api"
	"lockkeeper/disk"
	"lockkeeper/journal"
)

var noughts = strings.Repeat("\x00", 16)

// data is a page's 32 bytes that no other number has.
func data(n int) string { return fmt.Sprintf("a%015db%015d", n, n) }

// same holds two values against each other; fmt tells nil and empty lists alike.
func same(a, b any) bool { return fmt.Sprintf("%v", a) == fmt.Sprintf("%v", b) }

func clone(d api.Disk) api.Disk {
	return api.Disk{Sectors: slices.Clone(d.Sectors), Cache: slices.Clone(d.Cache)}
}

func fresh(t *testing.T, sectors int) api.Disk {
	t.Helper()
	d, err := disk.New(sectors)
	if err != api.OK {
		t.Fatal(err)
	}
	return d
}

// numbered is a disk of 36 sectors, all unlike, but for noughts in the first one.
func numbered(t *testing.T) api.Disk {
	t.Helper()
	d := fresh(t, 36)
	for i := 1; i < 36; i++ {
		d.Sectors[i] = fmt.Sprintf("%016d", i)
	}
	return d
}

func head(page int) string { return string([]byte{74, byte(page)}) + noughts[2:] }

func write(at int, s string) journal.Op { return journal.Op{Write: api.Write{At: at, Data: s}} }

var sync = journal.Op{Sync: true}

func wrong(t *testing.T) []api.Disk {
	torn, waits := fresh(t, 35), fresh(t, 35)
	torn.Sectors[34] = "short"
	waits.Cache = []api.Write{{At: 35, Data: noughts}}
	return []api.Disk{{}, fresh(t, 34), fresh(t, 1), torn, waits, {Sectors: slices.Repeat([]string{noughts}, 65)}}
}

func TestP12_1_Plan(t *testing.T) {
	for page := 1; page <= 16; page++ {
		s := data(page)
		d := fresh(t, 35)
		got, err := journal.Plan(d, page, s)
		want := []journal.Op{
			write(1, s[:16]), write(2, s[16:]), sync, write(0, head(page)), sync,
			write(2*page+1, s[:16]), write(2*page+2, s[16:]), sync, write(0, noughts), sync,
		}
		if err != api.OK || !slices.Equal(got, want) || len(got) != 10 {
			t.Errorf("Plan of %d: %v %d", page, got, err)
		}
	}
}

func TestP12_1_Refused(t *testing.T) {
	refused := func(d api.Disk, page int, s string) {
		t.Helper()
		if l, err := journal.Plan(d, page, s); err != api.ErrArg || len(l) != 0 {
			t.Errorf("Plan(%d, %q): %v %d", page, s, l, err)
		}
		if got, err := journal.Commit(d, page, s); err != api.ErrArg || !same(got, d) {
			t.Errorf("Commit(%d, %q): %d", page, s, err)
		}
		if len(s) == 32 {
			if got, err := journal.Get(d, page); err != api.ErrArg || got != "" {
				t.Errorf("Get(%d): %q %d", page, got, err)
			}
		}
	}
	for _, d := range wrong(t) {
		refused(d, 1, data(1))
	}
	d := numbered(t)
	for _, page := range []int{0, -1, 17, 257, math.MaxInt, math.MinInt} {
		refused(d, page, data(1))
	}
	for _, s := range []string{"", "a", data(1)[1:], data(1) + "a", data(1) + data(2)} {
		refused(d, 1, s)
	}
}

func TestP12_1_Repair(t *testing.T) {
	for i, d := range wrong(t) {
		if len(d.Sectors) > 0 {
			d.Sectors[0] = head(1)
		}
		if l := journal.Repair(d); len(l) != 0 {
			t.Errorf("Repair of wrong disk %d: %v", i, l)
		}
		if got := journal.Recover(d); !same(got, d) {
			t.Errorf("Recover of wrong disk %d: %v", i, got)
		}
	}
	d := numbered(t)
	if l := journal.Repair(d); len(l) != 0 {
		t.Errorf("Repair of noughts: %v", l)
	}
	for page := 1; page <= 16; page++ {
		d.Sectors[0] = head(page)
		want := []journal.Op{write(2*page+1, d.Sectors[1]), write(2*page+2, d.Sectors[2]), sync, write(0, noughts), sync}
		if l := journal.Repair(d); !slices.Equal(l, want) {
			t.Errorf("Repair of %d: %v", page, l)
		}
	}
	for _, s := range []string{
		head(0), head(17), head(255), "K" + head(1)[1:], head(1)[:15] + "a", head(1)[:2] + "\x01" + head(1)[3:], strings.Repeat("\xff", 16), noughts[:15] + "a", noughts[:1] + head(1)[1:], "J1" + noughts[2:],
	} {
		d.Sectors[0] = s
		if l := journal.Repair(d); !slices.Equal(l, []journal.Op{write(0, noughts), sync}) {
			t.Errorf("Repair of %q: %v", s, l)
		}
	}
}

func TestP12_1_RepairOfWhatIsRead(t *testing.T) {
	d := numbered(t)
	for _, w := range []api.Write{{At: 0, Data: head(5)}, {At: 1, Data: data(1)[:16]}, {At: 2, Data: data(1)[16:]}} {
		d, _ = disk.Put(d, w)
	}
	was := clone(d)
	if l := journal.Repair(d); len(l) != 5 || l[0] != write(11, data(1)[:16]) || l[1] != write(12, data(1)[16:]) {
		t.Errorf("Repair of a head that waits: %v", l)
	}
	got := journal.Recover(d)
	if s, err := journal.Get(got, 5); s != data(1) || err != api.OK || got.Sectors[0] != noughts || len(got.Cache) != 0 {
		t.Errorf("Recover of a head that waits: %v", got)
	}
	d, _ = disk.Put(d, api.Write{At: 0, Data: noughts})
	if l := journal.Repair(d); len(l) != 0 {
		t.Errorf("Repair of noughts that wait: %v", l)
	}
	if got := journal.Recover(d); !same(got, d) {
		t.Errorf("Recover of noughts that wait: %v", got)
	}
	if d.Cache = d.Cache[:3]; !same(d, was) {
		t.Errorf("what was handed in was changed: %v", d)
	}
}

func TestP12_1_Run(t *testing.T) {
	d := numbered(t)
	was := clone(d)
	l := []journal.Op{write(3, data(1)[:16]), write(36, noughts), write(4, "short"), write(5, noughts), sync, write(3, noughts), {Sync: true, Write: api.Write{At: 9, Data: noughts}}, write(-1, noughts), write(7, noughts)}
	want := []api.Disk{d}
	for _, op := range l {
		last := want[len(want)-1]
		if op.Sync {
			last = disk.Sync(last)
		} else {
			last, _ = disk.Put(last, op.Write)
		}
		want = append(want, last)
	}
	for most := -2; most < len(l)+3; most++ {
		if got := journal.Run(d, l, most); !same(got, want[min(max(most, 0), len(l))]) {
			t.Errorf("Run of %d: %v", most, got)
		}
	}
	if got := journal.Run(d, l, math.MaxInt); !same(got, want[len(l)]) {
		t.Errorf("Run of all: %v", got)
	}
	if got := journal.Run(d, l, math.MinInt); !same(got, d) || !same(journal.Run(d, nil, 3), d) {
		t.Errorf("Run of nothing: %v", got)
	}
	if !same(d, was) {
		t.Errorf("what was handed in was changed: %v", d)
	}
	for i, d := range wrong(t) {
		if got := journal.Run(d, []journal.Op{write(99, noughts), sync}, 2); !disk.Right(d) && !same(got, d) {
			t.Errorf("Run on wrong disk %d: %v", i, got)
		}
	}
}

func TestP12_1_CommitAndGet(t *testing.T) {
	for page := 1; page <= 16; page++ {
		d := numbered(t)
		if s, err := journal.Get(d, page); err != api.OK || s != d.Sectors[2*page+1]+d.Sectors[2*page+2] {
			t.Errorf("Get(%d): %q %d", page, s, err)
		}
		d, _ = disk.Put(d, api.Write{At: 2*page + 2, Data: noughts})
		if s, err := journal.Get(d, page); err != api.OK || s != d.Sectors[2*page+1]+noughts {
			t.Errorf("Get(%d) of what waits: %q %d", page, s, err)
		}
		was := clone(d)
		got, err := journal.Commit(d, page, data(page))
		want := disk.Sync(d)
		for at, s := range map[int]string{0: noughts, 1: data(page)[:16], 2: data(page)[16:], 2*page + 1: data(page)[:16], 2*page + 2: data(page)[16:]} {
			want.Sectors[at] = s
		}
		if err != api.OK || !same(got, want) {
			t.Errorf("Commit(%d): %v %d", page, got, err)
		}
		if s, _ := journal.Get(got, page); s != data(page) {
			t.Errorf("Get behind a Commit: %q", s)
		}
		if !same(d, was) {
			t.Errorf("what was handed in was changed: %v", d)
		}
	}
}

func TestP12_1_CommitOnAFullDisk(t *testing.T) {
	d := fresh(t, 35)
	d.Cache = slices.Repeat([]api.Write{{At: 34, Data: data(1)[:16]}}, 199)
	l, _ := journal.Plan(d, 2, data(2))
	got, err := journal.Commit(d, 2, data(2))
	if err != api.OK || !same(got, journal.Run(d, l, 10)) || got.Sectors[1] != data(2)[:16] || got.Sectors[2] != noughts || got.Sectors[6] != data(2)[16:] {
		t.Errorf("Commit, with 199 that wait: %v %d", got, err)
	}
}

// keeps are all the ways in which a crash may keep some of n that wait.
func keeps(n int) [][]int {
	var l [][]int
	for bits := range 1 << n {
		var keep []int
		for i := range n {
			if bits>>i&1 == 1 {
				keep = append(keep, i)
			}
		}
		l = append(l, keep)
	}
	return l
}

// whole holds all pages of a disk to what they were, but that one may be as it was to be.
func whole(t *testing.T, d, was api.Disk, page int, s string) {
	t.Helper()
	if d.Sectors[0] != noughts || len(d.Cache) != 0 {
		t.Fatalf("%v is not at rest", d)
	}
	for id := 1; id <= 16; id++ {
		old, _ := journal.Get(was, id)
		if got, err := journal.Get(d, id); err != api.OK || got != old && (id != page || got != s) {
			t.Fatalf("the page %d reads %q", id, got)
		}
	}
	if d.Sectors[35] != was.Sectors[35] {
		t.Fatalf("a sector of no page reads %q", d.Sectors[35])
	}
}

func TestP12_2_CutOffAnywhere(t *testing.T) {
	was := numbered(t)
	olds, news := 0, 0
	for page := 1; page <= 16; page++ {
		plan, _ := journal.Plan(was, page, data(page))
		for most := range len(plan) + 1 {
			cut := journal.Run(was, plan, most)
			for _, keep := range keeps(len(cut.Cache)) {
				crashed := disk.Crash(cut, keep)
				d := journal.Recover(crashed)
				whole(t, d, was, page, data(page))
				if again := journal.Recover(d); !same(again, d) {
					t.Fatalf("Recover, done twice: %v", again)
				}
				if s, _ := journal.Get(d, page); s == data(page) {
					news++
				} else {
					olds++
				}
				repair := journal.Repair(crashed)
				for most := range len(repair) + 1 {
					cut := journal.Run(crashed, repair, most)
					for _, keep := range keeps(len(cut.Cache)) {
						whole(t, journal.Recover(disk.Crash(cut, keep)), was, page, data(page))
					}
				}
			}
		}
		whole(t, journal.Run(was, plan, 10), was, page, data(page))
	}
	if olds == 0 || news == 0 {
		t.Errorf("%d old ones, %d new ones", olds, news)
	}
}
