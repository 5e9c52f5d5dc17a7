package sum_test

import (
	"hash/crc32"
	"math"
	"math/rand"
	"slices"
	"testing"

	"lockkeeper/sum"
)

func text(r *rand.Rand, n int) string {
	b := make([]byte, n)
	for i := range b {
		b[i] = byte(r.Intn(256))
	}
	return string(b)
}

func of(t *testing.T, s string) int {
	t.Helper()
	n, ok := sum.Sum(sum.Table(), s)
	if !ok {
		t.Fatalf("Sum(%q): false", s)
	}
	return n
}

func TestP1_1_Table(t *testing.T) {
	table := sum.Table()
	if len(table) != 256 {
		t.Fatalf("%d numbers", len(table))
	}
	for i, n := range table {
		if n != int(crc32.IEEETable[i]) {
			t.Errorf("entry %d: %x", i, n)
		}
	}
	table[7] = 0
	if sum.Table()[7] == 0 {
		t.Error("two tables share their memory")
	}
}

func TestP1_1_Sum(t *testing.T) {
	if n := of(t, "123456789"); n != 3421780262 {
		t.Errorf("123456789: %d", n)
	}
	if n := of(t, ""); n != 0 {
		t.Errorf("no bytes: %d", n)
	}
	r := rand.New(rand.NewSource(1))
	for n := range 300 {
		s := text(r, n)
		if got, want := of(t, s), int(crc32.ChecksumIEEE([]byte(s))); got != want {
			t.Errorf("Sum(%q): %x, not %x", s, got, want)
		}
	}
}

func TestP1_1_WrongTables(t *testing.T) {
	for _, n := range []int{0, 1, 255, 257, 512} {
		if got, ok := sum.Sum(make([]int, n), "a"); got != 0 || ok {
			t.Errorf("a table of %d: %d %t", n, got, ok)
		}
	}
	if got, ok := sum.Sum(nil, ""); got != 0 || ok {
		t.Errorf("no table: %d %t", got, ok)
	}
}

// plain is the sum as the chapter words it, with numbers that do not wrap.
func plain(t []int, s string) int {
	const m = 1 << 32
	state := m - 1
	for _, b := range []byte(s) {
		entry := t[(state%256)^int(b)] % m
		if entry < 0 {
			entry += m
		}
		state = entry ^ state/256
	}
	return m - 1 - state
}

func TestP1_1_AnyTable(t *testing.T) {
	r := rand.New(rand.NewSource(2))
	for range 200 {
		table := make([]int, 256)
		for i := range table {
			table[i] = int(r.Uint64())
			switch r.Intn(6) {
			case 0:
				table[i] = -1 - r.Intn(300)
			case 1:
				table[i] = math.MinInt + r.Intn(3)
			case 2:
				table[i] = 1<<32 - 1 + r.Intn(3)
			}
		}
		was := slices.Clone(table)
		s := text(r, 1+r.Intn(20))
		got, ok := sum.Sum(table, s)
		if !ok || got != plain(table, s) || got < 0 || got > 1<<32-1 {
			t.Fatalf("Sum(%q): %d %t, not %d", s, got, ok, plain(table, s))
		}
		if !slices.Equal(was, table) {
			t.Fatal("the table was changed")
		}
	}
}

func TestP1_2_OneBit(t *testing.T) {
	r := rand.New(rand.NewSource(3))
	for n := 1; n < 40; n++ {
		s := text(r, n)
		was := of(t, s)
		for bit := range 8 * n {
			b := []byte(s)
			b[bit/8] ^= 1 << (bit % 8)
			if of(t, string(b)) == was {
				t.Errorf("%q, bit %d: the same sum", s, bit)
			}
		}
	}
}

func TestP1_2_ThreeTexts(t *testing.T) {
	r := rand.New(rand.NewSource(4))
	for n := range 60 {
		a, b, c := text(r, n), text(r, n), text(r, n)
		all := make([]byte, n)
		for i := range all {
			all[i] = a[i] ^ b[i] ^ c[i]
		}
		if of(t, a)^of(t, b)^of(t, c) != of(t, string(all)) {
			t.Errorf("%q, %q, %q: their sums do not add up", a, b, c)
		}
	}
}
