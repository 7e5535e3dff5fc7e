package calc_test

import (
	"math/big"
	"slices"
	"testing"

	"allotment/api"
	"allotment/calc"
)

const (
	bound    = uint64(1) << 40
	greatest = ^uint64(0)
)

// edges are small numbers, powers of two, and what stands beside them and beside the bound.
func edges() []uint64 {
	l := []uint64{0, 3, 5, 6, 7, 10, 12, 1000003, bound + bound/2, greatest - bound, greatest, greatest / 3}
	for i := range 64 {
		p := uint64(1) << i
		l = append(l, p-1, p, p+1)
	}
	slices.Sort(l)
	return slices.Compact(l)
}

// few are edges, too, so few that all triples of them can be gone through.
func few() []uint64 {
	return []uint64{0, 1, 2, 3, 7, 1 << 20, 1<<20 + 1, 1 << 32, bound - 2, bound - 1, bound, bound + 1, 1 << 63, greatest - 1, greatest}
}

func number(x uint64) *big.Int { return new(big.Int).SetUint64(x) }

// answer is what a call that asks for x answers, when the bound is kept.
func answer(x *big.Int) (uint64, api.Errno) {
	if x.Cmp(number(bound)) > 0 {
		return 0, api.ErrRange
	}
	return x.Uint64(), api.OK
}

func same(t *testing.T, what string, in []uint64, got uint64, e api.Errno, want uint64, f api.Errno) {
	t.Helper()
	if got != want || e != f {
		t.Errorf("%s%v: %d, error %d; wanted %d, error %d", what, in, got, e, want, f)
	}
}

// P1.1
func TestPow2(t *testing.T) {
	powers := map[uint64]bool{}
	for i := range 64 {
		powers[1<<i] = true
	}
	for _, x := range edges() {
		if calc.Pow2(x) != powers[x] {
			t.Errorf("Pow2(%d): %v", x, !powers[x])
		}
	}
}

// P1.1
func TestRoundExamples(t *testing.T) {
	for _, x := range []struct {
		x, a, up uint64
		e        api.Errno
		down     uint64
		f        api.Errno
	}{
		{17, 16, 32, api.OK, 16, api.OK},
		{16, 16, 16, api.OK, 16, api.OK},
		{0, 8, 0, api.OK, 0, api.OK},
		{0, 1 << 63, 0, api.OK, 0, api.OK},
		{5, 1, 5, api.OK, 5, api.OK},
		{bound - 1, 1 << 20, bound, api.OK, bound - 1<<20, api.OK},
		{bound, 1, bound, api.OK, bound, api.OK},
		{bound, bound, bound, api.OK, bound, api.OK},
		{bound + 1, 1, 0, api.ErrRange, 0, api.ErrRange},
		{bound + 15, 16, 0, api.ErrRange, bound, api.OK},
		{bound + 16, 16, 0, api.ErrRange, 0, api.ErrRange},
		{1, bound, bound, api.OK, 0, api.OK},
		{1, bound * 2, 0, api.ErrRange, 0, api.OK},
		{bound*2 - 1, bound * 2, 0, api.ErrRange, 0, api.OK},
		{greatest, 1 << 63, 0, api.ErrRange, 0, api.ErrRange},
		{1<<63 - 1, 1 << 63, 0, api.ErrRange, 0, api.OK},
		{greatest, 2, 0, api.ErrRange, 0, api.ErrRange},
		{greatest, 1, 0, api.ErrRange, 0, api.ErrRange},
	} {
		got, e := calc.Up(x.x, x.a)
		same(t, "Up", []uint64{x.x, x.a}, got, e, x.up, x.e)
		got, e = calc.Down(x.x, x.a)
		same(t, "Down", []uint64{x.x, x.a}, got, e, x.down, x.f)
	}
}

// P1.1: what is no power of two is told ahead of what is beyond the bound.
func TestRoundToNoPower(t *testing.T) {
	for _, a := range []uint64{0, 3, 5, 6, 12, 1000, bound + 1, 3 << 62, greatest} {
		for _, x := range few() {
			got, e := calc.Up(x, a)
			same(t, "Up", []uint64{x, a}, got, e, 0, api.ErrArg)
			got, e = calc.Down(x, a)
			same(t, "Down", []uint64{x, a}, got, e, 0, api.ErrArg)
		}
	}
}

// P1.1 and P1.3: all edges, to multiples of all powers, held against numbers that have no end.
func TestRound(t *testing.T) {
	for _, x := range edges() {
		for i := range 64 {
			a := uint64(1) << i
			below := new(big.Int).Mul(new(big.Int).Div(number(x), number(a)), number(a))
			above := new(big.Int).Set(below)
			if above.Cmp(number(x)) < 0 {
				above.Add(above, number(a))
			}
			want, f := answer(above)
			got, e := calc.Up(x, a)
			same(t, "Up", []uint64{x, a}, got, e, want, f)
			want, f = answer(below)
			got, e = calc.Down(x, a)
			same(t, "Down", []uint64{x, a}, got, e, want, f)
		}
	}
}

// P1.3
func TestLessThanAStepAway(t *testing.T) {
	for x := range uint64(300) {
		for a := uint64(1); a <= 512; a *= 2 {
			up, e := calc.Up(x, a)
			if e != api.OK || up < x || up-x >= a || up%a != 0 {
				t.Errorf("Up(%d, %d): %d, error %d", x, a, up, e)
			}
			down, e := calc.Down(x, a)
			if e != api.OK || down > x || x-down >= a || down%a != 0 {
				t.Errorf("Down(%d, %d): %d, error %d", x, a, down, e)
			}
		}
	}
}

// P1.2
func TestSumAndMulExamples(t *testing.T) {
	for _, x := range []struct {
		l   []uint64
		sum uint64
		e   api.Errno
		mul uint64
		f   api.Errno
	}{
		{nil, 0, api.OK, 1, api.OK},
		{[]uint64{}, 0, api.OK, 1, api.OK},
		{[]uint64{0}, 0, api.OK, 0, api.OK},
		{[]uint64{7}, 7, api.OK, 7, api.OK},
		{[]uint64{2, 3, 4}, 9, api.OK, 24, api.OK},
		{[]uint64{1 << 39, 2}, 1<<39 + 2, api.OK, bound, api.OK},
		{[]uint64{bound}, bound, api.OK, bound, api.OK},
		{[]uint64{bound + 1}, 0, api.ErrRange, 0, api.ErrRange},
		{[]uint64{greatest}, 0, api.ErrRange, 0, api.ErrRange},
		{[]uint64{bound, 1}, 0, api.ErrRange, bound, api.OK},
		{[]uint64{bound, 2}, 0, api.ErrRange, 0, api.ErrRange},
		{[]uint64{1 << 39, 1 << 39}, bound, api.OK, 0, api.ErrRange},
		{[]uint64{greatest, 1}, 0, api.ErrRange, 0, api.ErrRange},
		{[]uint64{greatest, 2}, 0, api.ErrRange, 0, api.ErrRange},
		{[]uint64{1 << 63, 1 << 63}, 0, api.ErrRange, 0, api.ErrRange},
		{[]uint64{1 << 32, 1 << 32}, 1 << 33, api.OK, 0, api.ErrRange},
		{[]uint64{greatest, greatest, 0}, 0, api.ErrRange, 0, api.OK},
		{[]uint64{0, greatest, greatest}, 0, api.ErrRange, 0, api.OK},
		{[]uint64{1 << 20, 1<<20 + 1}, 1<<21 + 1, api.OK, 0, api.ErrRange},
	} {
		got, e := calc.Sum(x.l...)
		same(t, "Sum", x.l, got, e, x.sum, x.e)
		got, e = calc.Mul(x.l...)
		same(t, "Mul", x.l, got, e, x.mul, x.f)
	}
}

// together is what Sum and Mul answer, by numbers that have no end.
func together(l []uint64) (sum, mul *big.Int) {
	sum, mul = number(0), number(1)
	for _, x := range l {
		sum.Add(sum, number(x))
		mul.Mul(mul, number(x))
	}
	return sum, mul
}

// checkAll holds the four calls of many numbers against what they are to answer.
func checkAll(t *testing.T, l []uint64) {
	t.Helper()
	sum, mul := together(l)
	want, f := answer(sum)
	got, e := calc.Sum(l...)
	same(t, "Sum", l, got, e, want, f)
	want, f = answer(mul)
	got, e = calc.Mul(l...)
	same(t, "Mul", l, got, e, want, f)
	sorted := slices.Sorted(slices.Values(l))
	got, e = calc.Most(l...)
	same(t, "Most", l, got, e, sorted[len(l)-1], api.OK)
	got, e = calc.Least(l...)
	same(t, "Least", l, got, e, sorted[0], api.OK)
}

// P1.2 and P1.3: each row is there in all its orders.
func TestManyNumbers(t *testing.T) {
	for _, x := range few() {
		checkAll(t, []uint64{x})
		for _, y := range few() {
			checkAll(t, []uint64{x, y})
			for _, z := range few() {
				checkAll(t, []uint64{x, y, z})
			}
		}
	}
}

// P1.2: long rows.
func TestLongRows(t *testing.T) {
	twos := slices.Repeat([]uint64{2}, 40)
	checkAll(t, twos)
	checkAll(t, append(slices.Clone(twos), 1))
	checkAll(t, append(slices.Clone(twos), 2))
	checkAll(t, slices.Repeat([]uint64{2}, 64))
	checkAll(t, slices.Repeat([]uint64{1 << 63}, 8))
	checkAll(t, slices.Repeat([]uint64{1 << 30}, 1024))
	checkAll(t, append(slices.Repeat([]uint64{1 << 30}, 1024), 1))
}

// P1.2
func TestMostAndLeastOfNone(t *testing.T) {
	for _, l := range [][]uint64{nil, {}} {
		got, e := calc.Most(l...)
		same(t, "Most", l, got, e, 0, api.ErrNone)
		got, e = calc.Least(l...)
		same(t, "Least", l, got, e, 0, api.ErrNone)
	}
}

// P1.2: the bound is not theirs.
func TestMostAndLeastAboveTheBound(t *testing.T) {
	l := []uint64{greatest - 1, greatest, bound + 1}
	got, e := calc.Most(l...)
	same(t, "Most", l, got, e, greatest, api.OK)
	got, e = calc.Least(l...)
	same(t, "Least", l, got, e, bound+1, api.OK)
}

// P1.3
func TestOrderDoesNotMatter(t *testing.T) {
	for _, l := range [][]uint64{{0, greatest, 2}, {bound, 1, 1}, {1 << 20, 1 << 19, 2}, {9, 3, 27}} {
		orders := [][]uint64{{l[0], l[1], l[2]}, {l[0], l[2], l[1]}, {l[1], l[0], l[2]}, {l[1], l[2], l[0]}, {l[2], l[0], l[1]}, {l[2], l[1], l[0]}}
		for _, call := range []func(...uint64) (uint64, api.Errno){calc.Sum, calc.Mul, calc.Most, calc.Least} {
			want, f := call(orders[0]...)
			for _, o := range orders {
				got, e := call(o...)
				same(t, "of ", o, got, e, want, f)
			}
		}
	}
}

// What is handed in stays as it is, its spare room too.
func TestArgumentsStay(t *testing.T) {
	all := []uint64{9, 0, 4, greatest, 77, 78}
	before := slices.Clone(all)
	for _, call := range []func(...uint64) (uint64, api.Errno){calc.Sum, calc.Mul, calc.Most, calc.Least} {
		call(all[:4]...)
		if !slices.Equal(all, before) {
			t.Fatal(all)
		}
	}
}
