package quote_test

import (
	"math"
	"math/big"
	"math/rand"
	"slices"
	"testing"

	"bordereau/api"
	"bordereau/quote"
)

const (
	maxMoney = 1000000000000000
	maxSum   = 4000000000000000000
)

// flat is a version by which all but the base leaves an amount as it is.
func flat() api.Version {
	return api.Version{
		From:  1,
		Base:  [4]int{50, 50, 50, 50},
		Zone:  slices.Repeat([]int{10000}, 100),
		Peril: slices.Repeat([]int{10000}, 8),
		Min:   100,
	}
}

// made is a version whose factors all differ.
func made() api.Version {
	return api.Version{
		From:  7,
		Base:  [4]int{50, 120, 3333, 100000},
		Age:   []api.Band{{Upto: 24, Bp: 15000}, {Upto: 69, Bp: 9000}, {Upto: 90, Bp: 0}},
		Zone:  []int{10000, 12500, 0},
		Peril: []int{10000, 5000, 1, 100000, 7777, 20000, 30000, 0},
	}
}

// row is a version, a risk and a cover by which these are taken one behind the other: base, age, zone, peril, share; no cost is lifted to a least one.
func row(value int, parts [5]int) (api.Version, api.Risk, api.Cover) {
	v := flat()
	v.Base[2] = parts[0]
	v.Age = []api.Band{{Upto: 200, Bp: parts[1]}}
	v.Zone[4] = parts[2]
	v.Peril[6] = parts[3]
	v.Min = 0
	return v, api.Risk{Kind: 2, Value: value, Age: 30, Zone: 4}, of(6, parts[4])
}

func of(peril, share int) api.Cover {
	return api.Cover{Peril: peril, Limit: 1000, Agg: 2000, Ded: 10, Share: share}
}

func home() api.Risk {
	return api.Risk{Value: 1000000, Age: 80}
}

func cloneOf(v api.Version) api.Version {
	v.Age, v.Zone, v.Peril = slices.Clone(v.Age), slices.Clone(v.Zone), slices.Clone(v.Peril)
	return v
}

func checkOne(t *testing.T, v api.Version, r api.Risk, c api.Cover, want int, code api.Errno) {
	t.Helper()
	if got, e := quote.One(v, r, c); got != want || e != code {
		t.Errorf("One(%v, %v, %v): %d, code %d; want %d, code %d", v, r, c, got, e, want, code)
	}
}

func checkYear(t *testing.T, v api.Version, r api.Risk, l []api.Cover, want int, code api.Errno) {
	t.Helper()
	if got, e := quote.Year(v, r, l); got != want || e != code {
		t.Errorf("Year(%v, %v, %d covers): %d, code %d; want %d, code %d", v, r, len(l), got, e, want, code)
	}
}

func TestP9_1One(t *testing.T) {
	for _, x := range []struct{ share, want int }{{10000, 5000}, {5000, 2500}, {100, 100}, {200, 100}, {201, 100}, {202, 101}, {204, 102}, {1, 100}} {
		checkOne(t, flat(), home(), of(0, x.share), x.want, api.OK)
	}
	v := made()
	for _, x := range []struct {
		r            api.Risk
		peril, share int
		want         int
	}{
		{api.Risk{Kind: 0, Value: 1000000, Age: 91}, 0, 10000, 5000},
		{api.Risk{Kind: 1, Value: 1000000, Age: 91}, 0, 10000, 12000},
		{api.Risk{Kind: 2, Value: 1000000, Age: 91}, 0, 10000, 333300},
		{api.Risk{Kind: 3, Value: 1000000, Age: 91}, 0, 10000, 10000000},
		{api.Risk{Value: 1000000, Age: 0}, 0, 10000, 7500},
		{api.Risk{Value: 1000000, Age: 24}, 0, 10000, 7500},
		{api.Risk{Value: 1000000, Age: 25}, 0, 10000, 4500},
		{api.Risk{Value: 1000000, Age: 69}, 0, 10000, 4500},
		{api.Risk{Value: 1000000, Age: 70}, 0, 10000, 0},
		{api.Risk{Value: 1000000, Age: 90}, 0, 10000, 0},
		{api.Risk{Value: 1000000, Age: 200}, 0, 10000, 5000},
		{api.Risk{Value: 1000000, Age: 91, Zone: 1}, 0, 10000, 6250},
		{api.Risk{Value: 1000000, Age: 91, Zone: 2}, 0, 10000, 0},
		{api.Risk{Value: 1000000, Age: 91}, 1, 10000, 2500},
		{api.Risk{Value: 1000000, Age: 91}, 2, 10000, 0},
		{api.Risk{Value: 1000000, Age: 91}, 3, 10000, 50000},
		{api.Risk{Value: 1000000, Age: 91}, 4, 10000, 3888},
		{api.Risk{Value: 1000000, Age: 91}, 5, 10000, 10000},
		{api.Risk{Value: 1000000, Age: 91}, 6, 10000, 15000},
		{api.Risk{Value: 1000000, Age: 91}, 7, 10000, 0},
		{api.Risk{Value: 1000000, Age: 91}, 3, 1, 5},
		{api.Risk{Value: 1000000, Age: 24, Zone: 1}, 5, 3000, 5625},
		{api.Risk{Kind: 3, Value: maxMoney, Age: 200}, 6, 10000, 30 * maxMoney},
		{api.Risk{Value: 1, Age: 91}, 0, 10000, 0},
		{api.Risk{Value: 100, Age: 91}, 0, 10000, 0},
		{api.Risk{Value: 101, Age: 91}, 0, 10000, 1},
	} {
		checkOne(t, v, x.r, of(x.peril, x.share), x.want, api.OK)
	}
}

func TestP9_1NoAgesAreAllAlike(t *testing.T) {
	for age := range 201 {
		checkOne(t, flat(), api.Risk{Value: 1000000, Age: age}, of(0, 10000), 5000, api.OK)
	}
}

func TestP9_1EachPlaceOfItsFactors(t *testing.T) {
	for zone := range 100 {
		v := flat()
		v.Zone[zone] = 20000
		for other := range 100 {
			want := 5000
			if other == zone {
				want = 10000
			}
			checkOne(t, v, api.Risk{Value: 1000000, Zone: other}, of(0, 10000), want, api.OK)
		}
	}
	for peril := range 8 {
		v := flat()
		v.Peril[peril] = 20000
		for other := range 8 {
			want := 5000
			if other == peril {
				want = 10000
			}
			checkOne(t, v, home(), of(other, 10000), want, api.OK)
		}
	}
	for kind := range 4 {
		v := flat()
		v.Base[kind] = 100
		for other := range 4 {
			want := 5000
			if other == kind {
				want = 10000
			}
			checkOne(t, v, api.Risk{Kind: other, Value: 1000000}, of(0, 10000), want, api.OK)
		}
	}
}

// Of each part a half goes to the even cent ahead of the next one, so that their order shows.
func TestP9_1EachPartIsRoundedAheadOfTheNextOne(t *testing.T) {
	for _, x := range []struct {
		value int
		parts [5]int
		want  int
	}{
		{3, [5]int{5000, 5000, 10000, 10000, 10000}, 1},
		{1, [5]int{5000, 100000, 10000, 10000, 10000}, 0},
		{1, [5]int{100000, 5000, 10000, 10000, 10000}, 5},
		{1, [5]int{10000, 5000, 100000, 10000, 10000}, 0},
		{1, [5]int{10000, 100000, 5000, 10000, 10000}, 5},
		{1, [5]int{10000, 10000, 5000, 100000, 10000}, 0},
		{1, [5]int{10000, 10000, 100000, 5000, 10000}, 5},
		{1, [5]int{10000, 10000, 10000, 5000, 10000}, 0},
		{1, [5]int{10000, 10000, 10000, 100000, 5000}, 5},
		{5, [5]int{3000, 5000, 10000, 20000, 10000}, 2},
		{3, [5]int{5000, 10000, 10000, 10000, 10000}, 2},
		{3, [5]int{10000, 5000, 10000, 10000, 10000}, 2},
		{3, [5]int{10000, 10000, 5000, 10000, 10000}, 2},
		{3, [5]int{10000, 10000, 10000, 5000, 10000}, 2},
		{3, [5]int{10000, 10000, 10000, 10000, 5000}, 2},
		{7, [5]int{5000, 5000, 5000, 5000, 5000}, 0},
		{1000, [5]int{5000, 5000, 5000, 5000, 5000}, 31},
		{1000, [5]int{9999, 9999, 9999, 9999, 9999}, 1000},
		{1000, [5]int{0, 100000, 100000, 100000, 10000}, 0},
		{1000, [5]int{100000, 100000, 100000, 0, 10000}, 0},
	} {
		v, r, c := row(x.value, x.parts)
		checkOne(t, v, r, c, x.want, api.OK)
	}
}

func TestP9_1WhatIsTooGreat(t *testing.T) {
	const great = 100000
	for _, x := range []struct {
		value int
		parts [5]int
		want  int
		code  api.Errno
	}{
		{maxSum / 10000, [5]int{great, great, great, great, 10000}, maxSum, api.OK},
		{maxSum/10000 + 1, [5]int{great, great, great, great, 10000}, 0, api.ErrOver},
		{maxSum/10000 - 1, [5]int{great, great, great, great, 10000}, maxSum - 10000, api.OK},
		{maxMoney, [5]int{great, great, great, 40000, 10000}, maxSum, api.OK},
		{maxMoney, [5]int{great, great, great, 40001, 10000}, 0, api.ErrOver},
		{maxMoney, [5]int{40001, great, great, great, 10000}, 0, api.ErrOver},
		{maxMoney, [5]int{great, 40001, great, great, 10000}, 0, api.ErrOver},
		{maxMoney, [5]int{great, great, 40001, great, 10000}, 0, api.ErrOver},
		{maxMoney, [5]int{great, great, great, great, 10000}, 0, api.ErrOver},
		{maxMoney, [5]int{great, great, great, great, 1}, 0, api.ErrOver},
		{maxMoney, [5]int{great, great, great, great, 4000}, 0, api.ErrOver},
		{maxMoney, [5]int{great, great, great, 40000, 1}, maxSum / 10000, api.OK},
		{maxMoney, [5]int{great, great, 10000, great, 10000}, 1000 * maxMoney, api.OK},
		{maxMoney, [5]int{great, great, great, 0, 10000}, 0, api.OK},
		{maxMoney, [5]int{0, great, great, great, 10000}, 0, api.OK},
	} {
		v, r, c := row(x.value, x.parts)
		checkOne(t, v, r, c, x.want, x.code)
		v.Min = maxMoney
		if x.code == api.OK {
			x.want = max(x.want, maxMoney)
		}
		checkOne(t, v, r, c, x.want, x.code)
	}
}

func TestP9_1TheLeastThatAYearCosts(t *testing.T) {
	for _, x := range []struct{ least, want int }{{0, 2500}, {1, 2500}, {2499, 2500}, {2500, 2500}, {2501, 2501}, {5000, 5000}, {1 << 40, 1 << 40}, {maxMoney, maxMoney}} {
		v := flat()
		v.Min = x.least
		checkOne(t, v, home(), of(0, 5000), x.want, api.OK)
	}
	v, r, c := row(1000, [5]int{0, 0, 0, 0, 1})
	for _, least := range []int{0, 1, 77, maxMoney} {
		v.Min = least
		checkOne(t, v, r, c, least, api.OK)
	}
}

func wrongVersions() []api.Version {
	l := []api.Version{{}}
	for _, spoil := range []func(v *api.Version){
		func(v *api.Version) { v.From = 0 },
		func(v *api.Version) { v.From = 292195 },
		func(v *api.Version) { v.Base[3] = -1 },
		func(v *api.Version) { v.Base[0] = 100001 },
		func(v *api.Version) { v.Age = []api.Band{{Upto: 9, Bp: 1}, {Upto: 9, Bp: 1}} },
		func(v *api.Version) { v.Age = []api.Band{{Upto: 201, Bp: 1}} },
		func(v *api.Version) { v.Age = make([]api.Band, 101) },
		func(v *api.Version) { v.Zone = nil },
		func(v *api.Version) { v.Zone = append(v.Zone, 10000) },
		func(v *api.Version) { v.Zone[99] = 100001 },
		func(v *api.Version) { v.Peril = v.Peril[:7] },
		func(v *api.Version) { v.Peril = append(v.Peril, 10000) },
		func(v *api.Version) { v.Peril = nil },
		func(v *api.Version) { v.Peril[5] = -1 },
		func(v *api.Version) { v.Min = -1 },
		func(v *api.Version) { v.Min = maxMoney + 1 },
	} {
		v := flat()
		spoil(&v)
		l = append(l, v)
	}
	return l
}

func wrongRisks() []api.Risk {
	return []api.Risk{
		{}, {Kind: -1, Value: 1}, {Kind: 4, Value: 1}, {Value: 0}, {Value: -1}, {Value: maxMoney + 1}, {Value: 1, Age: -1}, {Value: 1, Age: 201}, {Value: 1, Zone: -1}, {Value: 1, Zone: 100},
		{Kind: math.MinInt, Value: 1}, {Kind: math.MaxInt, Value: 1}, {Value: math.MaxInt}, {Value: math.MinInt}, {Value: 1, Age: math.MinInt}, {Value: 1, Zone: math.MaxInt}, {Value: 1, Zone: math.MinInt},
	}
}

func wrongCovers() []api.Cover {
	return []api.Cover{
		{}, of(-1, 1), of(8, 1), of(0, 0), of(0, -1), of(0, 10001), of(math.MinInt, 1), of(math.MaxInt, 1), of(0, math.MaxInt),
		{Limit: 0, Agg: 5, Share: 1}, {Limit: 5, Agg: 4, Share: 1}, {Limit: 5, Agg: 5, Ded: 5, Share: 1}, {Limit: 5, Agg: 5, Ded: -1, Share: 1}, {Limit: 5, Agg: maxMoney + 1, Share: 1},
	}
}

func TestP9_1WhatMayNotBe(t *testing.T) {
	for _, v := range wrongVersions() {
		checkOne(t, v, home(), of(0, 10000), 0, api.ErrArg)
	}
	for _, r := range wrongRisks() {
		checkOne(t, flat(), r, of(0, 10000), 0, api.ErrArg)
	}
	for _, c := range wrongCovers() {
		checkOne(t, flat(), home(), c, 0, api.ErrArg)
	}
	checkOne(t, api.Version{}, api.Risk{}, api.Cover{}, 0, api.ErrArg)
}

func TestP9_1AZoneThatAVersionHasNot(t *testing.T) {
	for many := 1; many <= 100; many++ {
		v := flat()
		v.Zone = v.Zone[:many]
		for _, zone := range []int{0, 1, many - 1, many, many + 1, 99} {
			r := api.Risk{Value: 1000000, Zone: zone}
			switch {
			case zone > 99:
				checkOne(t, v, r, of(0, 10000), 0, api.ErrArg)
			case zone < many:
				checkOne(t, v, r, of(0, 10000), 5000, api.OK)
			default:
				checkOne(t, v, r, of(0, 10000), 0, api.ErrNone)
			}
		}
	}
}

func TestP9_1TheOrderOfCodes(t *testing.T) {
	short := flat()
	short.Zone = short.Zone[:3]
	outside := api.Risk{Value: 1, Zone: 3}
	checkOne(t, short, outside, of(0, 1), 0, api.ErrNone)
	for _, c := range wrongCovers() {
		checkOne(t, short, outside, c, 0, api.ErrArg)
	}
	for _, r := range []api.Risk{{Kind: 4, Value: 1, Zone: 3}, {Zone: 3}, {Value: maxMoney + 1, Zone: 99}, {Value: 1, Age: 201, Zone: 3}, {Value: 1, Zone: 100}} {
		checkOne(t, short, r, of(0, 1), 0, api.ErrArg)
	}
	for _, wrong := range []api.Version{{}, {From: 1, Zone: short.Zone}, {Zone: short.Zone, Peril: short.Peril}, {From: 1, Zone: short.Zone, Peril: short.Peril, Min: -1}} {
		checkOne(t, wrong, outside, of(0, 1), 0, api.ErrArg)
	}
	v, r, c := row(maxMoney, [5]int{100000, 100000, 100000, 100000, 10000})
	checkOne(t, v, r, c, 0, api.ErrOver)
	c.Share = 0
	checkOne(t, v, r, c, 0, api.ErrArg)
	c.Share, v.Zone = 1, v.Zone[:4]
	checkOne(t, v, r, c, 0, api.ErrNone)
}

// half is a times b by 10000, half-even, in numbers of any size.
func half(a *big.Int, b int) *big.Int {
	part, rest := new(big.Int).QuoRem(new(big.Int).Mul(a, big.NewInt(int64(b))), big.NewInt(10000), new(big.Int))
	if side := rest.Cmp(big.NewInt(5000)); side > 0 || side == 0 && part.Bit(0) == 1 {
		part.Add(part, big.NewInt(1))
	}
	return part
}

// ageOf is an age's factor, found from behind.
func ageOf(l []api.Band, age int) int {
	bp := 10000
	for i := len(l) - 1; i >= 0; i-- {
		if l[i].Upto >= age {
			bp = l[i].Bp
		}
	}
	return bp
}

// exact is what P9.1 says of a version, a risk and a cover that may be.
func exact(v api.Version, r api.Risk, c api.Cover) (int, api.Errno) {
	if len(v.Zone) <= r.Zone {
		return 0, api.ErrNone
	}
	cost := big.NewInt(int64(r.Value))
	for _, bp := range []int{v.Base[r.Kind], ageOf(v.Age, r.Age), v.Zone[r.Zone], v.Peril[c.Peril], c.Share} {
		if cost = half(cost, bp); cost.Cmp(big.NewInt(maxSum)) > 0 {
			return 0, api.ErrOver
		}
	}
	return max(int(cost.Int64()), v.Min), api.OK
}

// anyFactor is a factor, often one at a bound.
func anyFactor(source *rand.Rand) int {
	return []int{100000, 5000, 10000, source.Intn(20), source.Intn(100001), source.Intn(100001)}[source.Intn(6)]
}

// steep is a factor by which great amounts grow too great, here and there.
func steep(source *rand.Rand) int {
	return 100000 - source.Intn(20000)
}

// anyVersion is a version that may be, of up to 6 zones.
func anyVersion(source *rand.Rand) api.Version {
	factor := anyFactor
	if source.Intn(4) == 0 {
		factor = steep
	}
	v := api.Version{From: 1 + source.Intn(292194), Zone: make([]int, 1+source.Intn(6)), Peril: make([]int, 8)}
	for _, l := range [][]int{v.Base[:], v.Zone, v.Peril} {
		for i := range l {
			l[i] = factor(source)
		}
	}
	for upto := source.Intn(60); upto <= 200; upto += 1 + source.Intn(60) {
		v.Age = append(v.Age, api.Band{Upto: upto, Bp: factor(source)})
	}
	v.Min = source.Intn([]int{1, 20, 100000, maxMoney + 1}[source.Intn(4)])
	return v
}

func anyRisk(source *rand.Rand) api.Risk {
	value := 1 + source.Intn([]int{10, 1000, 1000000, maxMoney}[source.Intn(4)])
	return api.Risk{Kind: source.Intn(4), Value: value, Age: source.Intn(201), Zone: source.Intn(7)}
}

func anyCover(source *rand.Rand) api.Cover {
	agg := 1 + source.Intn(maxMoney)
	limit := 1 + source.Intn(agg)
	share := 1 + source.Intn(10000)
	if source.Intn(2) == 0 {
		share = 5000 * (1 + source.Intn(2))
	}
	return api.Cover{Peril: source.Intn(8), Limit: limit, Agg: agg, Ded: source.Intn(limit), Share: share}
}

func TestP9_1AgainstNumbersOfAnySize(t *testing.T) {
	source := rand.New(rand.NewSource(9))
	codes := map[api.Errno]int{}
	for range 40000 {
		v, r, c := anyVersion(source), anyRisk(source), anyCover(source)
		want, code := exact(v, r, c)
		checkOne(t, v, r, c, want, code)
		codes[code]++
	}
	for _, code := range []api.Errno{api.OK, api.ErrNone, api.ErrOver} {
		if codes[code] < 50 {
			t.Errorf("code %d: tried %d times alone", code, codes[code])
		}
	}
}

func TestP9_1NothingElseOfACoverCounts(t *testing.T) {
	for _, c := range []api.Cover{{Limit: 1, Agg: 1, Share: 5000}, {Limit: maxMoney, Agg: maxMoney, Ded: maxMoney - 1, Share: 5000}, {Limit: 7, Agg: maxMoney, Share: 5000}} {
		checkOne(t, flat(), home(), c, 2500, api.OK)
	}
	for _, from := range []int{1, 2, 100000, 292194} {
		v := flat()
		v.From = from
		checkOne(t, v, home(), of(0, 5000), 2500, api.OK)
	}
}

func TestP9_2Year(t *testing.T) {
	for _, x := range []struct {
		l    []api.Cover
		want int
	}{
		{[]api.Cover{of(0, 10000)}, 5000},
		{[]api.Cover{of(0, 10000), of(0, 10000)}, 10000},
		{[]api.Cover{of(0, 10000), of(1, 5000), of(2, 100)}, 7600},
		{[]api.Cover{of(0, 1), of(1, 1), of(2, 1)}, 300},
		{slices.Repeat([]api.Cover{of(3, 10000)}, 2001), 2001 * 5000},
	} {
		checkYear(t, flat(), home(), x.l, x.want, api.OK)
	}
	// Each cover is rounded alone, and lifted to Min alone.
	v, r, c := row(1, [5]int{10000, 10000, 10000, 10000, 5001})
	checkYear(t, v, r, []api.Cover{c, c, c}, 3, api.OK)
	c.Share = 5000
	checkYear(t, v, r, []api.Cover{c, c, c}, 0, api.OK)
	v.Min = 2
	checkYear(t, v, r, []api.Cover{c, c, c}, 6, api.OK)
}

func TestP9_2OfNoCovers(t *testing.T) {
	for _, l := range [][]api.Cover{nil, {}} {
		checkYear(t, flat(), home(), l, 0, api.OK)
		for _, v := range wrongVersions() {
			checkYear(t, v, home(), l, 0, api.OK)
		}
		for _, r := range wrongRisks() {
			checkYear(t, flat(), r, l, 0, api.OK)
		}
		checkYear(t, api.Version{}, api.Risk{}, l, 0, api.OK)
		checkYear(t, flat(), api.Risk{Value: 1, Zone: 100}, l, 0, api.OK)
	}
}

func TestP9_2TheErrorOfTheFirstOneThatHasOne(t *testing.T) {
	good := of(0, 10000)
	for _, c := range wrongCovers() {
		for _, l := range [][]api.Cover{{c}, {c, good}, {good, c}, {good, good, c, good}, {c, c}} {
			checkYear(t, flat(), home(), l, 0, api.ErrArg)
		}
	}
	for _, v := range wrongVersions() {
		checkYear(t, v, home(), []api.Cover{good, good}, 0, api.ErrArg)
	}
	for _, r := range wrongRisks() {
		checkYear(t, flat(), r, []api.Cover{good, good}, 0, api.ErrArg)
	}
	bad := of(8, 10000)
	outside := api.Risk{Value: 1, Zone: 3}
	short := flat()
	short.Zone = short.Zone[:3]
	checkYear(t, short, outside, []api.Cover{good}, 0, api.ErrNone)
	checkYear(t, short, outside, []api.Cover{good, bad}, 0, api.ErrNone)
	checkYear(t, short, outside, []api.Cover{bad, good}, 0, api.ErrArg)
	v, r, over := row(maxMoney, [5]int{100000, 100000, 100000, 100000, 10000})
	fine := of(0, 1)
	for _, x := range []struct {
		l    []api.Cover
		code api.Errno
	}{
		{[]api.Cover{over}, api.ErrOver}, {[]api.Cover{fine, over}, api.ErrOver}, {[]api.Cover{over, fine}, api.ErrOver},
		{[]api.Cover{over, bad}, api.ErrOver}, {[]api.Cover{bad, over}, api.ErrArg}, {[]api.Cover{fine, over, bad}, api.ErrOver}, {[]api.Cover{fine, bad, over}, api.ErrArg},
	} {
		checkYear(t, v, r, x.l, 0, x.code)
	}
}

func TestP9_2ASumAtItsBound(t *testing.T) {
	v, r, greatest := row(maxSum/10000, [5]int{100000, 100000, 100000, 100000, 10000})
	half, least := greatest, of(0, 10000)
	half.Share = 5000
	v.Peril[0] = 0
	l := func(covers ...api.Cover) []api.Cover { return covers }
	checkYear(t, v, r, l(greatest), maxSum, api.OK)
	checkYear(t, v, r, l(half, half), maxSum, api.OK)
	checkYear(t, v, r, l(least, half, least, half, least), maxSum, api.OK)
	v.Min = 1
	checkYear(t, v, r, l(half, least), maxSum/2+1, api.OK)
	for _, covers := range [][]api.Cover{l(greatest, least), l(least, greatest), l(half, half, least), l(half, least, half), l(least, half, half)} {
		checkYear(t, v, r, covers, 0, api.ErrOver)
	}
	bad := of(0, 0)
	for _, covers := range [][]api.Cover{l(greatest, least, bad), l(half, half, half, bad), l(bad, greatest, greatest), l(greatest, greatest, greatest, least, bad, least)} {
		checkYear(t, v, r, covers, 0, api.ErrArg)
	}
}

// Sums of so many go round more than once, where they are not held.
func TestP9_2ASumThatIsFarTooGreat(t *testing.T) {
	v, r, greatest := row(maxSum/10000, [5]int{100000, 100000, 100000, 100000, 10000})
	least := of(0, 1)
	v.Peril[0] = 0
	for many := 2; many < 80; many++ {
		l := slices.Repeat([]api.Cover{greatest}, many)
		checkYear(t, v, r, l, 0, api.ErrOver)
		checkYear(t, v, r, append(l, least, least), 0, api.ErrOver)
		for i := range l {
			l[i].Share = 6180
		}
		checkYear(t, v, r, l, 0, api.ErrOver)
	}
}

// added is what P9.2 says of covers that may be, in numbers of any size.
func added(v api.Version, r api.Risk, l []api.Cover) (int, api.Errno) {
	sum := new(big.Int)
	for _, c := range l {
		cost, code := exact(v, r, c)
		if code != api.OK {
			return 0, code
		}
		sum.Add(sum, big.NewInt(int64(cost)))
	}
	if sum.Cmp(big.NewInt(maxSum)) > 0 {
		return 0, api.ErrOver
	}
	return int(sum.Int64()), api.OK
}

func anyCovers(source *rand.Rand, many int) []api.Cover {
	var l []api.Cover
	for range many {
		l = append(l, anyCover(source))
	}
	return l
}

func TestP9_2AgainstNumbersOfAnySize(t *testing.T) {
	source := rand.New(rand.NewSource(92))
	for range 5000 {
		v, r, l := anyVersion(source), anyRisk(source), anyCovers(source, source.Intn(12))
		want, code := added(v, r, l)
		checkYear(t, v, r, l, want, code)
	}
}

func TestP9_3NoCoverCostsLessThanMin(t *testing.T) {
	source := rand.New(rand.NewSource(930))
	for range 5000 {
		v, r, c := anyVersion(source), anyRisk(source), anyCover(source)
		if cost, code := quote.One(v, r, c); code == api.OK && cost < v.Min {
			t.Errorf("One(%v, %v, %v): %d, less than Min", v, r, c, cost)
		}
		l := anyCovers(source, 3)
		if cost, code := quote.Year(v, r, l); code == api.OK && cost < 3*v.Min {
			t.Errorf("Year(%v, %v, %v): %d, less than three times Min", v, r, l, cost)
		}
	}
}

// checkNoLess holds what a year costs against what it costs of something greater; what is too great to be told is more than all that is told.
func checkNoLess(t *testing.T, name string, v, more api.Version, r, worth api.Risk, c, wide api.Cover) {
	t.Helper()
	cost, code := quote.One(v, r, c)
	dear, over := quote.One(more, worth, wide)
	if code == api.ErrOver && over == api.ErrOver || code == api.OK && over == api.ErrOver {
		return
	}
	if code != api.OK || over != api.OK || dear < cost {
		t.Errorf("%s: One(%v, %v, %v): %d, code %d; less than %d, code %d", name, more, worth, wide, dear, over, cost, code)
	}
}

func TestP9_3MoreCostsNoLess(t *testing.T) {
	source := rand.New(rand.NewSource(93))
	rise := func(n, high int) int {
		if source.Intn(2) == 0 {
			return min(n+1, high)
		}
		return n + source.Intn(high-n+1)
	}
	for range 5000 {
		v, r, c := anyVersion(source), anyRisk(source), anyCover(source)
		r.Zone = source.Intn(len(v.Zone))
		worth, wide := r, c
		worth.Value = rise(r.Value, maxMoney)
		checkNoLess(t, "Value", v, v, r, worth, c, c)
		wide.Share = rise(c.Share, 10000)
		checkNoLess(t, "Share", v, v, r, r, c, wide)
		more := cloneOf(v)
		more.Base[r.Kind] = rise(v.Base[r.Kind], 100000)
		checkNoLess(t, "Base", v, more, r, r, c, c)
		more = cloneOf(v)
		more.Zone[r.Zone] = rise(v.Zone[r.Zone], 100000)
		checkNoLess(t, "Zone", v, more, r, r, c, c)
		more = cloneOf(v)
		more.Peril[c.Peril] = rise(v.Peril[c.Peril], 100000)
		checkNoLess(t, "Peril", v, more, r, r, c, c)
		more = cloneOf(v)
		for i := range more.Age {
			more.Age[i].Bp = rise(v.Age[i].Bp, 100000)
		}
		checkNoLess(t, "Age", v, more, r, r, c, c)
		more.Min = rise(v.Min, maxMoney)
		checkNoLess(t, "Age and Min", v, more, r, worth, c, wide)
	}
}

func TestP9_3AYearHangsNotOnTheOrderOfItsCovers(t *testing.T) {
	source := rand.New(rand.NewSource(94))
	for range 500 {
		v, r, l := anyVersion(source), anyRisk(source), anyCovers(source, 1+source.Intn(8))
		want, code := quote.Year(v, r, l)
		for range 6 {
			source.Shuffle(len(l), func(i, j int) { l[i], l[j] = l[j], l[i] })
			checkYear(t, v, r, l, want, code)
		}
	}
}

func TestP9_3TwoRowsOfCoversAreTheirSum(t *testing.T) {
	source := rand.New(rand.NewSource(95))
	for range 1000 {
		v, r, l := anyVersion(source), anyRisk(source), anyCovers(source, source.Intn(9))
		whole, code := quote.Year(v, r, l)
		if code != api.OK {
			continue
		}
		for cut := range len(l) + 1 {
			front, e := quote.Year(v, r, l[:cut])
			rest, f := quote.Year(v, r, l[cut:])
			if e != api.OK || f != api.OK || front+rest != whole {
				t.Errorf("%d covers cut at %d: %d, code %d, and %d, code %d; want %d in all", len(l), cut, front, e, rest, f, whole)
			}
		}
	}
}

func TestP9_1P9_2NothingIsWrittenInto(t *testing.T) {
	v, r := made(), home()
	l := append(make([]api.Cover, 0, 9), of(0, 10000), of(1, 5000), of(8, 1))
	given, one := slices.Clone(l[:9]), cloneOf(v)
	for n := range len(l) + 1 {
		quote.Year(v, r, l[:n])
	}
	for _, c := range l {
		quote.One(v, r, c)
	}
	if !slices.Equal(l[:9], given) {
		t.Errorf("covers became %v", l[:9])
	}
	if v.Base != one.Base || !slices.Equal(v.Age, one.Age) || !slices.Equal(v.Zone, one.Zone) || !slices.Equal(v.Peril, one.Peril) || v.From != one.From || v.Min != one.Min {
		t.Errorf("a version became %v", v)
	}
}
