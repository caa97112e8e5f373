package num_test

import (
	"math"
	"math/big"
	"slices"
	"testing"

	"bordereau/api"
	"bordereau/num"
)

// wraps times 19 is 9 times 2^64, less 1: by 9, rounded down, it is the greatest number of 64 bits, and to the nearest one more, which goes round to 0.
const wraps = 8737931403336103397

type division struct {
	a, b, c int
	want    int
	code    api.Errno
}

func checkDivisions(t *testing.T, name string, call func(a, b, c int) (int, api.Errno), rows []division) {
	t.Helper()
	for _, x := range rows {
		if got, code := call(x.a, x.b, x.c); got != x.want || code != x.code {
			t.Errorf("%s(%d, %d, %d): %d, code %d; want %d, code %d", name, x.a, x.b, x.c, got, code, x.want, x.code)
		}
	}
}

// wrongDivisions have the same code whatever is rounded; the earlier code wins where several apply.
func wrongDivisions() []division {
	return []division{
		{-1, 1, 1, 0, api.ErrArg}, {1, -1, 1, 0, api.ErrArg}, {1, 1, -1, 0, api.ErrArg},
		{-1, -1, -1, 0, api.ErrArg}, {-1, -1, 1, 0, api.ErrArg}, {0, 0, -1, 0, api.ErrArg},
		{math.MinInt, 1, 1, 0, api.ErrArg}, {1, math.MinInt, 1, 0, api.ErrArg}, {1, 1, math.MinInt, 0, api.ErrArg},
		{-1, 1, 0, 0, api.ErrArg}, {1, -1, 0, 0, api.ErrArg},
		{math.MaxInt, math.MaxInt, -1, 0, api.ErrArg}, {math.MaxInt, -1, 1, 0, api.ErrArg}, {-1, math.MaxInt, 1, 0, api.ErrArg},
		{0, 0, 0, 0, api.ErrZero}, {5, 7, 0, 0, api.ErrZero}, {math.MaxInt, math.MaxInt, 0, 0, api.ErrZero},
		{api.MaxSum + 1, 1, 1, 0, api.ErrOver}, {1, api.MaxSum + 1, 1, 0, api.ErrOver}, {api.MaxSum, 3, 2, 0, api.ErrOver},
		{math.MaxInt, math.MaxInt, 1, 0, api.ErrOver}, {math.MaxInt, math.MaxInt, math.MaxInt, 0, api.ErrOver},
		{math.MaxInt, 4, 2, 0, api.ErrOver}, {1 << 62, 4, 1, 0, api.ErrOver}, {1 << 62, 8, 2, 0, api.ErrOver},
		{wraps, 19, 9, 0, api.ErrOver},
	}
}

func TestP1_1Down(t *testing.T) {
	checkDivisions(t, "Down", num.Down, []division{
		{7, 5, 2, 17, api.OK}, {5, 5, 2, 12, api.OK}, {2, 1, 3, 0, api.OK}, {1, 1, 1, 1, api.OK},
		{9, 9, 10, 8, api.OK}, {99, 1, 100, 0, api.OK}, {100, 1, 100, 1, api.OK},
		{0, 9, 4, 0, api.OK}, {9, 0, 4, 0, api.OK}, {1, 1, math.MaxInt, 0, api.OK},
		{math.MaxInt, math.MaxInt, math.MaxInt, 0, api.ErrOver},
		{math.MaxInt - 1, api.MaxSum, math.MaxInt, api.MaxSum - 1, api.OK},
		{math.MaxInt, api.MaxSum, math.MaxInt, api.MaxSum, api.OK},
		{1 << 62, 1 << 62, math.MaxInt, 1 << 61, api.OK},
		{api.MaxSum, 1, 1, api.MaxSum, api.OK}, {api.MaxSum, 365, 365, api.MaxSum, api.OK},
		{2*api.MaxSum + 1, 1, 2, api.MaxSum, api.OK}, {2*api.MaxSum - 1, 1, 2, api.MaxSum - 1, api.OK},
		{3*(api.MaxSum/2) + 1, 2, 3, api.MaxSum, api.OK}, {2*api.MaxSum + 2, 1, 2, 0, api.ErrOver},
	})
	checkDivisions(t, "Down", num.Down, wrongDivisions())
}

func TestP1_2Even(t *testing.T) {
	checkDivisions(t, "Even", num.Even, []division{
		{7, 5, 2, 18, api.OK}, {5, 5, 2, 12, api.OK}, {7, 10, 4, 18, api.OK}, {4000, 182, 365, 1995, api.OK},
		{1, 1, 2, 0, api.OK}, {3, 1, 2, 2, api.OK}, {1, 1, 3, 0, api.OK}, {2, 1, 3, 1, api.OK},
		{49, 1, 100, 0, api.OK}, {50, 1, 100, 0, api.OK}, {51, 1, 100, 1, api.OK}, {150, 1, 100, 2, api.OK}, {149, 1, 100, 1, api.OK},
		{0, 9, 4, 0, api.OK}, {9, 0, 4, 0, api.OK}, {6, 4, 3, 8, api.OK},
		{1, math.MaxInt / 2, math.MaxInt, 0, api.OK}, {1, math.MaxInt/2 + 1, math.MaxInt, 1, api.OK},
		{1 << 61, 1, 1 << 62, 0, api.OK}, {1 << 61, 3, 1 << 62, 2, api.OK}, {1<<61 + 1, 1, 1 << 62, 1, api.OK},
		{math.MaxInt - 1, math.MaxInt - 1, math.MaxInt, 0, api.ErrOver},
		{math.MaxInt - 1, api.MaxSum, math.MaxInt, api.MaxSum, api.OK},
		{api.MaxSum, 1, 1, api.MaxSum, api.OK}, {2*api.MaxSum - 1, 1, 2, api.MaxSum, api.OK},
		{2*api.MaxSum + 1, 1, 2, api.MaxSum, api.OK}, {2*api.MaxSum + 2, 1, 2, 0, api.ErrOver},
		{3*(api.MaxSum/2) + 1, 2, 3, 0, api.ErrOver},
	})
	checkDivisions(t, "Even", num.Even, wrongDivisions())
}

func TestP1_2Bp(t *testing.T) {
	for _, x := range []struct {
		m, bp, want int
		code        api.Errno
	}{
		{1234, 0, 0, api.OK}, {1234, 2500, 308, api.OK}, {1234, 10000, 1234, api.OK}, {1234, 20000, 2468, api.OK},
		{1, 5000, 0, api.OK}, {3, 5000, 2, api.OK}, {5, 5000, 2, api.OK}, {1, 5001, 1, api.OK}, {0, 7, 0, api.OK},
		{api.MaxSum, api.MaxBp, api.MaxSum, api.OK}, {api.MaxSum, 10001, 0, api.ErrOver}, {api.MaxMoney, 1, api.MaxMoney / 10000, api.OK},
		{api.MaxSum + 1, api.MaxBp, 0, api.ErrOver}, {math.MaxInt, 1, 922337203685478, api.OK}, {math.MaxInt, math.MaxInt, 0, api.ErrOver},
		{-1, 1, 0, api.ErrArg}, {1, -1, 0, api.ErrArg}, {-1, -1, 0, api.ErrArg}, {math.MaxInt, -1, 0, api.ErrArg}, {math.MinInt, 0, 0, api.ErrArg},
	} {
		if got, code := num.Bp(x.m, x.bp); got != x.want || code != x.code {
			t.Errorf("Bp(%d, %d): %d, code %d; want %d, code %d", x.m, x.bp, got, code, x.want, x.code)
		}
	}
}

// exact reckons a times b by c with numbers of any size.
func exact(a, b, c int, even bool) (int, api.Errno) {
	if a < 0 || b < 0 || c < 0 {
		return 0, api.ErrArg
	}
	if c == 0 {
		return 0, api.ErrZero
	}
	product := new(big.Int).Mul(big.NewInt(int64(a)), big.NewInt(int64(b)))
	q, r := new(big.Int).QuoRem(product, big.NewInt(int64(c)), new(big.Int))
	side := r.Lsh(r, 1).Cmp(big.NewInt(int64(c)))
	if even && (side > 0 || side == 0 && q.Bit(0) == 1) {
		q.Add(q, big.NewInt(1))
	}
	if q.Cmp(big.NewInt(api.MaxSum)) > 0 {
		return 0, api.ErrOver
	}
	return int(q.Int64()), api.OK
}

func TestP1_1P1_2AgainstNumbersOfAnySize(t *testing.T) {
	edges := []int{
		math.MinInt, -1, 0, 1, 2, 3, 4, 5, 7, 10, 19, 99, 100, 364, 365, 366, 9999, api.MaxBp, 10001,
		1<<31 - 1, 1 << 31, 1<<32 - 1, 1 << 32, 1<<32 + 1, api.MaxMoney - 1, api.MaxMoney, api.MaxMoney + 1,
		1<<61 - 1, 1 << 61, 1<<61 + 1, api.MaxSum/2 - 1, api.MaxSum / 2, api.MaxSum - 1, api.MaxSum, api.MaxSum + 1,
		1<<62 - 1, 1 << 62, 1<<62 + 1, 3*(api.MaxSum/2) + 1, 2*api.MaxSum - 1, 2*api.MaxSum + 1, wraps, math.MaxInt - 1, math.MaxInt,
	}
	for _, a := range edges {
		for _, b := range edges {
			for _, c := range edges {
				want, code := exact(a, b, c, false)
				checkDivisions(t, "Down", num.Down, []division{{a, b, c, want, code}})
				want, code = exact(a, b, c, true)
				checkDivisions(t, "Even", num.Even, []division{{a, b, c, want, code}})
			}
		}
	}
}

func ones(many int) []int {
	return slices.Repeat([]int{1}, many)
}

func TestP1_3Split(t *testing.T) {
	for _, x := range []struct {
		m     int
		parts []int
		want  []int
	}{
		{100, []int{1, 1, 1}, []int{33, 33, 34}}, {100, []int{2, 2, 2}, []int{33, 33, 34}}, {10, []int{1, 2, 3, 4}, []int{1, 2, 3, 4}},
		{1, []int{1, 1, 1}, []int{0, 0, 1}}, {2, []int{1, 1, 1}, []int{0, 1, 1}}, {0, []int{3, 4}, []int{0, 0}},
		{7, []int{0, 3, 0, 1}, []int{0, 5, 0, 2}}, {7, []int{1, 0}, []int{7, 0}}, {7, []int{0, 1}, []int{0, 7}}, {5, []int{9}, []int{5}},
		{api.MaxSum, []int{1}, []int{api.MaxSum}}, {api.MaxSum, []int{1, 1}, []int{api.MaxSum / 2, api.MaxSum / 2}},
		{api.MaxSum, []int{api.MaxSum - 1, 1}, []int{api.MaxSum - 1, 1}}, {1, []int{api.MaxSum - 1, 1}, []int{0, 1}},
		{api.MaxSum, []int{api.MaxSum}, []int{api.MaxSum}}, {3, []int{api.MaxSum / 2, 0, api.MaxSum / 2}, []int{1, 0, 2}},
		{api.MaxRows, ones(api.MaxRows), ones(api.MaxRows)},
	} {
		if got, code := num.Split(x.m, x.parts); code != api.OK || !slices.Equal(got, x.want) {
			t.Errorf("Split(%d, %v): %v, code %d; want %v", x.m, x.parts, got, code, x.want)
		}
	}
}

func TestP1_3SplitRefuses(t *testing.T) {
	for _, x := range []struct {
		name  string
		m     int
		parts []int
		code  api.Errno
	}{
		{"m below 0", -1, []int{1}, api.ErrArg}, {"least m", math.MinInt, []int{1}, api.ErrArg},
		{"a part below 0", 1, []int{1, -1, 1}, api.ErrArg}, {"last part below 0", 1, []int{1, 1, math.MinInt}, api.ErrArg},
		{"too many parts", 1, ones(api.MaxRows + 1), api.ErrArg},
		{"m below 0, no parts", -1, nil, api.ErrArg}, {"m below 0, parts of 0", -1, []int{0}, api.ErrArg},
		{"m below 0, sum over", -1, []int{api.MaxSum, 1}, api.ErrArg}, {"m over, a part below 0", math.MaxInt, []int{-1}, api.ErrArg},
		{"sum over ahead of a part below 0", 1, []int{math.MaxInt, math.MaxInt, -1}, api.ErrArg},
		{"sum brought back by a part below 0", 1, []int{api.MaxSum, 1, -1}, api.ErrArg},
		{"sum of 0 with a part below 0", 1, []int{1, -1}, api.ErrArg},
		{"too many parts of 0", 1, make([]int, api.MaxRows+1), api.ErrArg}, {"too many parts, m over", math.MaxInt, ones(api.MaxRows + 1), api.ErrArg},
		{"too many parts, sum over", 1, slices.Repeat([]int{math.MaxInt}, api.MaxRows+1), api.ErrArg},
		{"sum one over", 1, []int{api.MaxSum, 1}, api.ErrOver}, {"one part over", 1, []int{api.MaxSum + 1}, api.ErrOver},
		{"sum goes round to 0", 0, []int{math.MaxInt, math.MaxInt, 2}, api.ErrOver}, {"sum goes round below 0", 1, []int{math.MaxInt, 1}, api.ErrOver},
		{"a great part behind a great sum", 1, []int{api.MaxSum, math.MaxInt}, api.ErrOver},
		{"sum over at the last of MaxRows", 1, slices.Repeat([]int{api.MaxSum/api.MaxRows + 1}, api.MaxRows), api.ErrOver},
		{"m one over", api.MaxSum + 1, []int{1}, api.ErrOver}, {"greatest m", math.MaxInt, []int{1}, api.ErrOver},
		{"m over, no parts", api.MaxSum + 1, nil, api.ErrOver}, {"m over, parts of 0", api.MaxSum + 1, []int{0, 0}, api.ErrOver},
		{"no parts", 1, nil, api.ErrZero}, {"empty parts", 1, []int{}, api.ErrZero}, {"parts of 0", 1, []int{0, 0}, api.ErrZero},
		{"nothing of nothing", 0, nil, api.ErrZero}, {"MaxRows parts of 0", api.MaxSum, make([]int, api.MaxRows), api.ErrZero},
	} {
		if got, code := num.Split(x.m, x.parts); code != x.code || len(got) != 0 {
			t.Errorf("%s: %v, code %d; want code %d", x.name, got, code, x.code)
		}
	}
}

func TestSplitLeavesItsPartsAlone(t *testing.T) {
	parts := []int{3, 0, 4}
	first, _ := num.Split(70, parts)
	if !slices.Equal(parts, []int{3, 0, 4}) {
		t.Error("R3: parts were written into:", parts)
	}
	clear(first)
	if second, code := num.Split(70, parts); code != api.OK || !slices.Equal(second, []int{30, 0, 40}) {
		t.Error("R3, R4: the second answer hangs on the first:", second, code)
	}
}

// manyParts are lists of all lengths and sizes, by a rule that always gives the same ones.
func manyParts() [][]int {
	lists := [][]int{
		{1}, {0, 1}, {1, 0}, {0, 0, 5, 0}, {api.MaxSum}, {api.MaxSum - 1, 1}, {1, api.MaxSum - 1}, {1, api.MaxSum - 2, 0, 1},
		ones(api.MaxRows), slices.Repeat([]int{api.MaxSum / api.MaxRows}, api.MaxRows), append(make([]int, api.MaxRows-1), 1),
	}
	seed := uint64(1)
	for many := 1; many <= 40; many++ {
		for _, bits := range []uint{1, 3, 13, 40, 55} {
			parts := make([]int, many)
			for i := range parts {
				seed = seed*6364136223846793005 + 1442695040888963407
				parts[i] = int(seed >> (64 - bits))
			}
			lists = append(lists, append(parts, 1))
		}
	}
	return lists
}

func TestP1_4WhatIsSplitSumsUp(t *testing.T) {
	for _, parts := range manyParts() {
		for _, m := range []int{0, 1, 2, 7, 99, 100, 36500, 1000003, api.MaxMoney, api.MaxSum - 1, api.MaxSum} {
			shares, code := num.Split(m, parts)
			if code != api.OK || len(shares) != len(parts) {
				t.Fatalf("Split(%d, %v): %v, code %d", m, parts, shares, code)
			}
			checkShares(t, m, parts, shares)
		}
	}
}

func checkShares(t *testing.T, m int, parts, shares []int) {
	t.Helper()
	all, dealt := 0, 0
	for i := range parts {
		all += parts[i]
		dealt += shares[i]
	}
	if dealt != m {
		t.Errorf("Split(%d, %v): %v sum up to %d", m, parts, shares, dealt)
	}
	for i, share := range shares {
		if share < 0 || parts[i] == 0 && share != 0 {
			t.Errorf("Split(%d, %v): part %d gets %d", m, parts, i, share)
		}
		// Held against the share times all, since the share itself is no whole number.
		gets := new(big.Int).Mul(big.NewInt(int64(share)), big.NewInt(int64(all)))
		away := gets.Sub(gets, new(big.Int).Mul(big.NewInt(int64(m)), big.NewInt(int64(parts[i]))))
		if away.CmpAbs(big.NewInt(int64(all))) > 0 {
			t.Errorf("Split(%d, %v): part %d gets %d, more than a cent away", m, parts, i, share)
		}
	}
}
