package rank

import (
	"math"
	"math/rand"
	"slices"
	"testing"

	"evenhanded/api"
	"evenhanded/window"
)

const (
	least = math.MinInt
	most  = math.MaxInt
	limit = api.MaxPeriod
)

type row struct {
	e, p, i, release, id int
	want                 Rank
}

func check(t *testing.T, rows []row) {
	t.Helper()
	for _, r := range rows {
		if got := Of(r.e, r.p, r.i, r.release, r.id); got != r.want {
			t.Errorf("%d in %d, quantum %d, from %d, id %d: %v, want %v", r.e, r.p, r.i, r.release, r.id, got, r.want)
		}
	}
}

// P4.1: numbers reckoned by hand.
func TestOf(t *testing.T) {
	check(t, []row{
		{8, 11, 1, 0, 1, Rank{2, 1, 4, 1}},
		{8, 11, 3, 0, 7, Rank{5, 1, 8, 7}},
		{8, 11, 3, 100, 7, Rank{105, 1, 108, 7}},
		{8, 11, 8, 22, 7, Rank{33, 0, 33, 7}},
		{3, 5, 2, 10, 4, Rank{14, 1, 15, 4}},
		{4, 6, 2, 6, 2, Rank{9, 0, 9, 2}},
		{1, 2, 1, 8, 5, Rank{10, 0, 10, 5}},
		{limit - 1, limit, 1, 7, 3, Rank{9, 1, limit + 7, 3}},
		{limit, limit, limit, 7, 3, Rank{limit + 7, 0, 0, 3}},
		{1, limit, 1, 7, 3, Rank{limit + 7, 0, 0, 3}},
	})
}

// P4.1: a Group that is 0, of a light task or of one with all of the time, stays 0 at any release.
func TestOfWithoutGroup(t *testing.T) {
	check(t, []row{
		{2, 5, 1, 0, 3, Rank{3, 1, 0, 3}},
		{2, 5, 1, 10, 3, Rank{13, 1, 0, 3}},
		{2, 5, 2, 10, 3, Rank{15, 0, 0, 3}},
		{2, 5, 1, -10, 3, Rank{-7, 1, 0, 3}},
		{1, 3, 1, 3, 3, Rank{6, 0, 0, 3}},
		{3, 3, 2, 50, 1, Rank{52, 0, 0, 1}},
		{1, 1, 1, 50, 1, Rank{51, 0, 0, 1}},
		{1, 1, 1, -1, 1, Rank{0, 0, 0, 1}},
	})
}

// P4.1: release and id may be any; a Group that release takes to 0 was none of 0.
func TestOfAnyReleaseAndID(t *testing.T) {
	check(t, []row{
		{8, 11, 3, -5, 0, Rank{0, 1, 3, 0}},
		{8, 11, 3, -8, 0, Rank{-3, 1, 0, 0}},
		{8, 11, 3, -100, -7, Rank{-95, 1, -92, -7}},
		{8, 11, 3, least, least, Rank{least + 5, 1, least + 8, least}},
		{8, 11, 3, most - 8, most, Rank{most - 3, 1, most, most}},
		{2, 5, 1, most - 3, most, Rank{most, 1, 0, most}},
		{8, 11, 3, api.Horizon, 1, Rank{api.Horizon + 5, 1, api.Horizon + 8, 1}},
	})
}

// P4.1: a release so late that the sum has no number goes round, and nothing panics.
func TestOfGoesRound(t *testing.T) {
	check(t, []row{
		{8, 11, 3, most, 1, Rank{least + 4, 1, least + 7, 1}},
		{8, 11, 3, most - 5, 1, Rank{most, 1, least + 2, 1}},
		{2, 5, 1, most, 1, Rank{least + 2, 1, 0, 1}},
	})
}

// P4.1: of what may not be all is 0 but the ID, at any release.
func TestOfWrong(t *testing.T) {
	wrong := [][3]int{
		{0, 0, 0}, {0, 5, 0}, {0, 5, 1}, {1, 0, 1}, {-1, 5, 1}, {-1, -1, -1}, {1, -1, 1},
		{3, 2, 1}, {6, 5, 1}, {2, 1, 2}, {8, 11, 0}, {8, 11, 9}, {8, 11, -1}, {2, 5, 0}, {2, 5, 3}, {3, 3, 4},
		{1, limit + 1, 1}, {limit, limit + 1, 1}, {limit + 1, limit + 1, 1}, {limit + 1, limit, 1}, {limit, limit, limit + 1},
		{most, most, most}, {1, most, 1}, {8, 11, most}, {8, 11, least}, {least, least, least}, {least, 11, 1}, {8, least, 1}, {most, 11, 1},
	}
	for _, w := range wrong {
		for _, release := range []int{0, 1, -1, 50, most, least} {
			for _, id := range []int{0, 1, 9, -4, most, least} {
				check(t, []row{{w[0], w[1], w[2], release, id, Rank{ID: id}}})
			}
		}
	}
}

// P4.1: a rank is what window says, moved by release.
func TestOfFollowsWindow(t *testing.T) {
	r := rand.New(rand.NewSource(4))
	for range 100000 {
		p := 1 + r.Intn(limit)>>r.Intn(20)
		e := 1 + r.Intn(p)
		i := 1 + r.Intn(e)
		release, id := r.Intn(api.Horizon), r.Intn(api.MaxTasks)
		want := Rank{window.Deadline(e, p, i) + release, window.Bit(e, p, i), 0, id}
		if g := window.Group(e, p, i); g > 0 {
			want.Group = g + release
		}
		check(t, []row{{e, p, i, release, id, want}})
	}
}

// ahead holds that a goes ahead of b, and b not ahead of a.
func ahead(t *testing.T, a, b Rank) {
	t.Helper()
	if !Less(a, b) || Less(b, a) {
		t.Errorf("%v and %v: %v, the other way %v; want the first ahead", a, b, Less(a, b), Less(b, a))
	}
}

// alike holds that neither goes ahead.
func alike(t *testing.T, a, b Rank) {
	t.Helper()
	if Less(a, b) || Less(b, a) {
		t.Errorf("%v and %v: %v, the other way %v; want them alike", a, b, Less(a, b), Less(b, a))
	}
}

// P4.1: the lesser Deadline, whatever all else is.
func TestLessDeadline(t *testing.T) {
	ahead(t, Rank{4, 0, 0, 99}, Rank{5, 1, 8, 1})
	ahead(t, Rank{4, 1, 7, 99}, Rank{5, 1, 8, 1})
	ahead(t, Rank{-1, 0, 0, 9}, Rank{0, 1, 9, 0})
	ahead(t, Rank{least, 0, 0, 9}, Rank{most, 1, 9, 0})
	ahead(t, Rank{least, 0, 0, 9}, Rank{least + 1, most, 9, 0})
	ahead(t, Rank{most - 1, least, 0, 9}, Rank{most, most, 9, 0})
}

// P4.1: Deadlines alike: Bit 1 ahead of 0, whatever Group and ID are.
func TestLessBit(t *testing.T) {
	ahead(t, Rank{5, 1, 0, 2}, Rank{5, 0, 0, 1})
	ahead(t, Rank{5, 1, 7, 9}, Rank{5, 0, 99, 1})
	ahead(t, Rank{5, 1, -7, 9}, Rank{5, 0, 99, -1})
	ahead(t, Rank{5, 1, least, most}, Rank{5, 0, most, least})
}

// P4.1: Bits that are neither 0 nor 1: the greater one ahead.
func TestLessOddBit(t *testing.T) {
	ahead(t, Rank{5, 2, 0, 9}, Rank{5, 1, 9, 0})
	ahead(t, Rank{5, 2, 0, 9}, Rank{5, 0, 9, 0})
	ahead(t, Rank{5, 3, 0, 9}, Rank{5, 2, 9, 0})
	ahead(t, Rank{5, 0, 0, 9}, Rank{5, -1, 9, 0})
	ahead(t, Rank{5, 1, 0, 9}, Rank{5, -1, 9, 0})
	ahead(t, Rank{5, -1, 0, 9}, Rank{5, -2, 9, 0})
	ahead(t, Rank{5, most, 0, 9}, Rank{5, least, 9, 0})
	ahead(t, Rank{5, most, 0, 9}, Rank{5, 1, 9, 0})
	ahead(t, Rank{5, 0, 0, 9}, Rank{5, least, 9, 0})
}

// P4.1: both Bits 1: the greater Group, whatever the ID is.
func TestLessGroup(t *testing.T) {
	ahead(t, Rank{5, 1, 8, 9}, Rank{5, 1, 7, 1})
	ahead(t, Rank{5, 1, 6, 9}, Rank{5, 1, 0, 1})
	ahead(t, Rank{5, 1, 0, 9}, Rank{5, 1, -1, 1})
	ahead(t, Rank{5, 1, most, 9}, Rank{5, 1, least, 1})
}

// P4.1: where not both Bits are 1, Groups are not asked.
func TestLessGroupUnasked(t *testing.T) {
	for _, bit := range []int{0, 2, 3, -1, most, least} {
		ahead(t, Rank{5, bit, 0, 1}, Rank{5, bit, 9, 2})
		ahead(t, Rank{5, bit, 9, 1}, Rank{5, bit, 0, 2})
		ahead(t, Rank{5, bit, least, 1}, Rank{5, bit, most, 2})
		alike(t, Rank{5, bit, 0, 1}, Rank{5, bit, 9, 1})
	}
}

// P4.1: Groups alike, or not asked: the lesser ID; all alike: none ahead.
func TestLessID(t *testing.T) {
	for _, bit := range []int{0, 1, 2, -1} {
		ahead(t, Rank{5, bit, 8, 2}, Rank{5, bit, 8, 8})
		ahead(t, Rank{5, bit, 8, -1}, Rank{5, bit, 8, 0})
		ahead(t, Rank{5, bit, 0, least}, Rank{5, bit, 0, most})
		alike(t, Rank{5, bit, 8, 2}, Rank{5, bit, 8, 2})
	}
	alike(t, Rank{}, Rank{})
	alike(t, Rank{least, least, least, least}, Rank{least, least, least, least})
	alike(t, Rank{most, most, most, most}, Rank{most, most, most, most})
}

// place is the sign by which a stands ahead of b (-1) or behind it (1), told apart from Less as a row of numbers, the lesser row first.
func place(a, b Rank) int {
	return slices.Compare(numbers(a), numbers(b))
}

// numbers turns round what has the greater one ahead; ^x does so without running over.
func numbers(r Rank) []int {
	group := 0
	if r.Bit == 1 {
		group = ^r.Group
	}
	return []int{r.Deadline, ^r.Bit, group, r.ID}
}

// every answers all ranks of these numbers.
func every(from ...int) []Rank {
	var all []Rank
	for _, d := range from {
		for _, b := range from {
			for _, g := range from {
				for _, id := range from {
					all = append(all, Rank{d, b, g, id})
				}
			}
		}
	}
	return all
}

// P4.1: each pair of small numbers and of those at the ends.
func TestLessEveryPair(t *testing.T) {
	for _, all := range [][]Rank{every(-1, 0, 1, 2), every(least, 0, 1, most), every(least, least+1, 1, most-1, most)} {
		for _, a := range all {
			for _, b := range all {
				if got, want := Less(a, b), place(a, b) < 0; got != want {
					t.Fatalf("%v ahead of %v: %v, want %v", a, b, got, want)
				}
			}
		}
	}
}

// P4.1: it is an order: who is ahead of one is ahead of all behind that one, and so with alike ones.
func TestLessIsAnOrder(t *testing.T) {
	all := every(0, 1, 2)
	for _, a := range all {
		for _, b := range all {
			if Less(a, b) && Less(b, a) {
				t.Fatalf("%v and %v: each ahead of the other", a, b)
			}
			for _, c := range all {
				if Less(a, b) && Less(b, c) && !Less(a, c) || !Less(a, b) && !Less(b, c) && Less(a, c) {
					t.Fatalf("%v, %v, %v: not in order", a, b, c)
				}
			}
		}
	}
}

// P4.1: a row of all kinds.
func TestSort(t *testing.T) {
	l := []Rank{{5, 0, 0, 1}, {5, 1, 7, 9}, {5, 1, 8, 8}, {4, 0, 0, 99}, {5, 1, 8, 2}, {5, 0, 99, 0}, {5, 2, 0, 50}, {5, 2, 9, 40}, {6, 1, 9, 0}, {5, -1, 9, -9}}
	want := []Rank{{4, 0, 0, 99}, {5, 2, 9, 40}, {5, 2, 0, 50}, {5, 1, 8, 2}, {5, 1, 8, 8}, {5, 1, 7, 9}, {5, 0, 99, 0}, {5, 0, 0, 1}, {5, -1, 9, -9}, {6, 1, 9, 0}}
	if got := Sort(l); !slices.Equal(got, want) {
		t.Errorf("%v, want %v", got, want)
	}
	if got := Sort(want); !slices.Equal(got, want) {
		t.Errorf("sorted once more: %v, want %v", got, want)
	}
}

// P4.1: rows of none, of one, and of one rank many times.
func TestSortShort(t *testing.T) {
	for _, l := range [][]Rank{nil, {}, make([]Rank, 0, 4), {{3, 1, 4, 1}}, {{3, 1, 4, 1}, {3, 1, 4, 1}, {3, 1, 4, 1}}} {
		if got := Sort(l); !slices.Equal(got, l) {
			t.Errorf("%v: %v", l, got)
		}
	}
}

// P4.1: ranks that are alike, but in a Group that is not asked, as they stood.
func TestSortAlike(t *testing.T) {
	a, b, first := Rank{1, 0, 3, 5}, Rank{1, 0, 4, 5}, Rank{0, 0, 0, 0}
	if got, want := Sort([]Rank{b, a, first}), []Rank{first, b, a}; !slices.Equal(got, want) {
		t.Errorf("%v, want %v", got, want)
	}
	if got, want := Sort([]Rank{a, first, b}), []Rank{first, a, b}; !slices.Equal(got, want) {
		t.Errorf("%v, want %v", got, want)
	}
}

// slowSort lays each rank behind the last one that it is not ahead of.
func slowSort(l []Rank) []Rank {
	var sorted []Rank
	for _, r := range l {
		k := len(sorted)
		for k > 0 && place(r, sorted[k-1]) < 0 {
			k--
		}
		sorted = slices.Insert(sorted, k, r)
	}
	return sorted
}

// anyRow answers ranks of few kinds, so that many are alike; where Group is not asked it tells their places.
func anyRow(r *rand.Rand, size int) []Rank {
	l := make([]Rank, size)
	for k := range l {
		l[k] = Rank{r.Intn(3), r.Intn(4) - 1, r.Intn(3), r.Intn(3)}
		if l[k].Bit != 1 {
			l[k].Group = k
		}
	}
	return l
}

// P4.1: rows of any length, held against one that is laid rank by rank.
func TestSortAny(t *testing.T) {
	r := rand.New(rand.NewSource(5))
	for size := range 300 {
		l := anyRow(r, size)
		if got, want := Sort(l), slowSort(l); !slices.Equal(got, want) {
			t.Fatalf("%v:\n%v, want\n%v", l, got, want)
		}
	}
	l := anyRow(r, 3000)
	if got, want := Sort(l), slowSort(l); !slices.Equal(got, want) {
		t.Fatal("a long row is not in order")
	}
}

// R4: what is handed in stays as it is, with its spare room, and what is answered shares no memory with it.
func TestSortLeavesItsArgument(t *testing.T) {
	for size := range 40 {
		room := anyRow(rand.New(rand.NewSource(int64(size))), size+8)
		before := slices.Clone(room)
		got := Sort(room[:size])
		got = got[:cap(got)]
		for k := range got {
			got[k] = Rank{-7, -7, -7, -7}
		}
		got = append(got, Rank{-8, -8, -8, -8})
		if !slices.Equal(room, before) {
			t.Fatalf("%d ranks: %v, were %v", size, room, before)
		}
		if again := Sort(room[:size]); !slices.Equal(again, slowSort(before[:size])) {
			t.Fatalf("%d ranks: asked again: %v", size, again)
		}
	}
}
