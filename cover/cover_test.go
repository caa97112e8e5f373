package cover_test

import (
	"math"
	"math/big"
	"math/rand"
	"slices"
	"testing"

	"bordereau/api"
	"bordereau/cover"
)

// made is a cover that may be.
func made() api.Cover {
	return api.Cover{Peril: 3, Limit: 1000, Agg: 1500, Ded: 100, Share: 8000}
}

// field is a number of a cover, and from where to where it may be, if all others are as made.
type field struct {
	name      string
	low, high int
	set       func(c *api.Cover, n int)
}

func fields() []field {
	return []field{
		{"Peril", 0, 7, func(c *api.Cover, n int) { c.Peril = n }},
		{"Share", 1, 10000, func(c *api.Cover, n int) { c.Share = n }},
		{"Ded", 0, 999, func(c *api.Cover, n int) { c.Ded = n }},
		{"Limit", 101, 1500, func(c *api.Cover, n int) { c.Limit = n }},
		{"Agg", 1000, 1000000000000000, func(c *api.Cover, n int) { c.Agg = n }},
	}
}

// wrongs are numbers that aren't from low to high, such among them that would be if they were cut to 32 bits.
func wrongs(low, high int) []int {
	l := []int{low - 1, high + 1, low - 2, high + 2, -low - 1, math.MinInt, math.MinInt + 1, math.MaxInt, 1<<32 + low, -1<<32 + low, 1<<62 + high, math.MinInt + high}
	return slices.DeleteFunc(l, func(n int) bool { return n >= low && n <= high })
}

func TestP8_1EachNumberAtItsBounds(t *testing.T) {
	for _, f := range fields() {
		for _, n := range []int{f.low, f.low + 1, f.low + (f.high-f.low)/2, f.high - 1, f.high} {
			c := made()
			f.set(&c, n)
			if !cover.Right(c) {
				t.Errorf("%s %d: Right(%v): false", f.name, n, c)
			}
		}
		for _, n := range wrongs(f.low, f.high) {
			c := made()
			f.set(&c, n)
			if cover.Right(c) {
				t.Errorf("%s %d: Right(%v): true", f.name, n, c)
			}
		}
	}
}

func TestP8_1TheLeastAndTheGreatestCover(t *testing.T) {
	for _, x := range []struct {
		c    api.Cover
		want bool
	}{
		{api.Cover{Limit: 1, Agg: 1, Share: 1}, true},
		{api.Cover{Peril: 7, Limit: 1000000000000000, Agg: 1000000000000000, Ded: 999999999999999, Share: 10000}, true},
		{api.Cover{Peril: 7, Limit: 1, Agg: 1000000000000000, Share: 10000}, true},
		{api.Cover{Peril: 7, Limit: 1000000000000000, Agg: 1000000000000000, Ded: 1000000000000000, Share: 10000}, false},
		{api.Cover{Peril: 7, Limit: 1000000000000000, Agg: 1000000000000001, Share: 10000}, false},
		{api.Cover{Peril: 7, Limit: 1000000000000001, Agg: 1000000000000001, Share: 10000}, false},
		{api.Cover{Peril: 7, Limit: 1000000000000001, Agg: 1000000000000000, Share: 10000}, false},
		{api.Cover{}, false},
		{api.Cover{Share: 1}, false},
		{api.Cover{Limit: 1, Agg: 1}, false},
		{api.Cover{Agg: 1, Share: 1}, false},
		{api.Cover{Limit: 1, Share: 1}, false},
		{api.Cover{Limit: -1, Agg: -1, Ded: -2, Share: 1}, false},
		{api.Cover{Limit: math.MaxInt, Agg: math.MaxInt, Share: 1}, false},
		{api.Cover{Limit: math.MinInt, Agg: math.MinInt, Ded: math.MinInt, Share: 1}, false},
		{api.Cover{Limit: math.MinInt, Agg: 5, Ded: math.MaxInt, Share: 1}, false},
		{api.Cover{Limit: 5, Agg: 5, Ded: math.MinInt, Share: 1}, false},
	} {
		if got := cover.Right(x.c); got != x.want {
			t.Errorf("Right(%v): %v; want %v", x.c, got, x.want)
		}
	}
}

// mayBe tells by the words of P8.1, one by one, whether a cover may be.
func mayBe(c api.Cover) bool {
	wrong := []bool{c.Peril < 0, c.Peril > 7, c.Share < 1, c.Share > 10000, c.Ded < 0, c.Ded >= c.Limit, c.Limit > c.Agg, c.Agg > 1000000000000000}
	return !slices.Contains(wrong, true)
}

func TestP8_1EachOrderOfItsAmounts(t *testing.T) {
	amounts := []int{math.MinInt, -1 << 32, -2, -1, 0, 1, 2, 3, 1000, 1 << 31, 1 << 32, 1<<32 + 1, 999999999999999, 1000000000000000, 1000000000000001, math.MaxInt - 1, math.MaxInt}
	for _, ded := range amounts {
		for _, limit := range amounts {
			for _, agg := range amounts {
				for _, peril := range []int{-1, 0, 7, 8} {
					for _, share := range []int{0, 1, 10000, 10001} {
						c := api.Cover{Peril: peril, Limit: limit, Agg: agg, Ded: ded, Share: share}
						if got, want := cover.Right(c), mayBe(c); got != want {
							t.Errorf("Right(%v): %v; want %v", c, got, want)
						}
					}
				}
			}
		}
	}
}

func TestP8_2Pays(t *testing.T) {
	c := api.Cover{Limit: 1000, Agg: 1500, Ded: 100, Share: 8000}
	whole := api.Cover{Limit: 1000, Agg: 1000, Ded: 100, Share: 10000}
	bare := api.Cover{Limit: 1000, Agg: 5000, Share: 10000}
	narrow := api.Cover{Limit: 10, Agg: 100, Ded: 9, Share: 10000}
	for _, x := range []struct {
		c                api.Cover
		loss, used, want int
	}{
		{c, 600, 0, 400}, {c, 2000, 900, 600},
		{c, 0, 0, 0}, {c, 1, 0, 0}, {c, 99, 0, 0}, {c, 100, 0, 0}, {c, 101, 0, 1}, {c, 102, 0, 2}, {c, 103, 0, 2}, {c, 104, 0, 3},
		// The limit is for what is above the deductible, not for the loss.
		{c, 1000, 0, 720}, {c, 1098, 0, 798}, {c, 1099, 0, 799}, {c, 1100, 0, 800}, {c, 1101, 0, 800}, {c, 5000, 0, 800}, {c, math.MaxInt, 0, 800},
		{narrow, 9, 0, 0}, {narrow, 10, 0, 1}, {narrow, 18, 0, 9}, {narrow, 19, 0, 10}, {narrow, 20, 0, 10},
		// The aggregate is for what is paid, behind the share.
		{c, 2000, 699, 800}, {c, 2000, 700, 800}, {c, 2000, 701, 799}, {c, 2000, 1499, 1}, {c, 2000, 1500, 0}, {c, 2000, 1501, 0}, {c, 2000, math.MaxInt, 0},
		{c, 600, 1100, 400}, {c, 600, 1101, 399}, {c, 100, 1499, 0}, {c, 101, 1499, 1}, {c, 101, 1500, 0}, {c, 0, math.MaxInt, 0}, {c, math.MaxInt, math.MaxInt, 0},
		{whole, 700, 0, 600}, {whole, 1100, 0, 1000}, {whole, 1101, 1, 999}, {whole, 700, 400, 600}, {whole, 700, 401, 599},
		{bare, 1, 0, 1}, {bare, 999, 0, 999}, {bare, 1000, 0, 1000}, {bare, 1001, 0, 1000}, {bare, 1000, 4000, 1000}, {bare, 1000, 4001, 999},
	} {
		if got := cover.Pays(x.c, x.loss, x.used); got != x.want {
			t.Errorf("Pays(%v, %d, %d): %d; want %d", x.c, x.loss, x.used, got, x.want)
		}
	}
}

func TestP8_2AShareIsHalfEven(t *testing.T) {
	for _, x := range []struct{ share, loss, want int }{
		{5000, 1, 0}, {5000, 2, 1}, {5000, 3, 2}, {5000, 4, 2}, {5000, 5, 2}, {5000, 7, 4}, {5000, 9, 4}, {5000, 11, 6},
		{1, 4999, 0}, {1, 5000, 0}, {1, 5001, 1}, {1, 14999, 1}, {1, 15000, 2}, {1, 25000, 2}, {1, 25001, 3},
		{9999, 1, 1}, {9999, 4999, 4999}, {9999, 5000, 5000}, {9999, 5001, 5000}, {9999, 15000, 14998}, {9999, 15001, 14999},
		{3333, 1, 0}, {3333, 2, 1}, {3333, 10000, 3333}, {6667, 1, 1}, {10000, 1, 1}, {10000, 77777, 77777},
	} {
		c := api.Cover{Limit: 100000, Agg: 100000, Share: x.share}
		if got := cover.Pays(c, x.loss, 0); got != x.want {
			t.Errorf("a share of %d, a loss of %d: %d; want %d", x.share, x.loss, got, x.want)
		}
		c.Ded = 12345
		if got := cover.Pays(c, x.loss+12345, 0); got != x.want {
			t.Errorf("a share of %d, a loss of %d above the deductible: %d; want %d", x.share, x.loss, got, x.want)
		}
	}
}

func TestP8_2TheGreatestAmounts(t *testing.T) {
	const most = 1000000000000000
	for _, x := range []struct {
		c                api.Cover
		loss, used, want int
	}{
		{api.Cover{Limit: most, Agg: most, Share: 10000}, most, 0, most},
		{api.Cover{Limit: most, Agg: most, Share: 10000}, most + 1, 0, most},
		{api.Cover{Limit: most, Agg: most, Share: 10000}, math.MaxInt, 0, most},
		{api.Cover{Limit: most, Agg: most, Share: 10000}, math.MaxInt, 1, most - 1},
		{api.Cover{Limit: most, Agg: most, Share: 10000}, math.MaxInt, most - 1, 1},
		{api.Cover{Limit: most, Agg: most, Share: 10000}, math.MaxInt, most, 0},
		{api.Cover{Limit: most, Agg: most, Share: 9999}, most, 0, 999900000000000},
		{api.Cover{Limit: most, Agg: most, Share: 1}, math.MaxInt, 0, 100000000000},
		{api.Cover{Limit: most, Agg: most, Ded: most - 1, Share: 10000}, most, 0, 1},
		{api.Cover{Limit: most, Agg: most, Ded: most - 1, Share: 10000}, most - 1, 0, 0},
		{api.Cover{Limit: most, Agg: most, Ded: most - 1, Share: 10000}, 0, math.MaxInt, 0},
		{api.Cover{Limit: 1, Agg: 1, Share: 10000}, math.MaxInt, 0, 1},
		{api.Cover{Limit: 1, Agg: 1, Share: 5000}, math.MaxInt, 0, 0},
		{api.Cover{Limit: 1, Agg: 1, Share: 5001}, math.MaxInt, 0, 1},
	} {
		if got := cover.Pays(x.c, x.loss, x.used); got != x.want {
			t.Errorf("Pays(%v, %d, %d): %d; want %d", x.c, x.loss, x.used, got, x.want)
		}
	}
}

func TestP8_2NothingOfWhatMayNotBe(t *testing.T) {
	amounts := []int{0, 1, 100, 101, 600, 1200, 2000, math.MaxInt}
	for _, f := range fields() {
		for _, n := range wrongs(f.low, f.high) {
			c := made()
			f.set(&c, n)
			for _, loss := range amounts {
				for _, used := range []int{0, 1, 5000, math.MaxInt} {
					if got := cover.Pays(c, loss, used); got != 0 {
						t.Errorf("%s %d: Pays(%v, %d, %d): %d; want 0", f.name, n, c, loss, used, got)
					}
				}
			}
		}
	}
	for _, below := range []int{-1, -2, -100, -700, -1 << 32, -1<<32 + 600, math.MinInt + 1100, math.MinInt + 1, math.MinInt} {
		for _, n := range append(amounts, below) {
			if got := cover.Pays(made(), below, n); got != 0 {
				t.Errorf("a loss of %d, with %d used: %d; want 0", below, n, got)
			}
			if got := cover.Pays(made(), n, below); got != 0 {
				t.Errorf("a loss of %d, with %d used: %d; want 0", n, below, got)
			}
		}
	}
}

func TestP8_2APerilPaysAsAnyOther(t *testing.T) {
	for peril := range 8 {
		c := made()
		c.Peril = peril
		if got := cover.Pays(c, 600, 0); got != 400 {
			t.Errorf("peril %d: %d; want 400", peril, got)
		}
	}
}

func lesser(a, b *big.Int) *big.Int {
	if a.Cmp(b) < 0 {
		return a
	}
	return b
}

// above is a less b, and 0, if that is below 0.
func above(a, b int) *big.Int {
	d := new(big.Int).Sub(big.NewInt(int64(a)), big.NewInt(int64(b)))
	if d.Sign() < 0 {
		return new(big.Int)
	}
	return d
}

// exact is what P8.2 says, reckoned with numbers of any size.
func exact(c api.Cover, loss, used int) int {
	if loss < 0 || used < 0 || !mayBe(c) {
		return 0
	}
	claim := lesser(big.NewInt(int64(c.Limit)), above(loss, c.Ded))
	product := new(big.Int).Mul(claim, big.NewInt(int64(c.Share)))
	part, rest := new(big.Int).QuoRem(product, big.NewInt(10000), new(big.Int))
	if side := rest.Cmp(big.NewInt(5000)); side > 0 || side == 0 && part.Bit(0) == 1 {
		part.Add(part, big.NewInt(1))
	}
	return int(lesser(part, above(c.Agg, used)).Int64())
}

// anyCover is a cover that may be, of amounts up to most.
func anyCover(source *rand.Rand, most int) api.Cover {
	agg := 1 + source.Intn(most)
	limit := 1 + source.Intn(agg)
	return api.Cover{Peril: source.Intn(8), Limit: limit, Agg: agg, Ded: source.Intn(limit), Share: 1 + source.Intn(10000)}
}

func TestP8_2AgainstNumbersOfAnySize(t *testing.T) {
	amounts := []int{math.MinInt, -1, 0, 1, 2, 9, 10, 99, 100, 5000, 10001, 1<<32 - 1, 1 << 32, 999999999999999, 1000000000000000, 1000000000000001, math.MaxInt - 1, math.MaxInt}
	check := func(c api.Cover, loss, used int) {
		if got, want := cover.Pays(c, loss, used), exact(c, loss, used); got != want {
			t.Errorf("Pays(%v, %d, %d): %d; want %d", c, loss, used, got, want)
		}
	}
	for _, ded := range []int{0, 1, 99, 5000, 999999999999999} {
		for _, limit := range []int{0, 1, 100, 10001, 1 << 32, 1000000000000000} {
			for _, agg := range []int{1, 100, 10001, 1<<32 + 1, 1000000000000000} {
				for _, share := range []int{1, 2500, 4999, 5000, 9999, 10000} {
					c := api.Cover{Limit: limit, Agg: agg, Ded: ded, Share: share}
					for _, loss := range amounts {
						for _, used := range amounts {
							check(c, loss, used)
						}
					}
				}
			}
		}
	}
	source := rand.New(rand.NewSource(8))
	for range 2000 {
		most := []int{20, 1000, 100000, 1000000000000000}[source.Intn(4)]
		c := anyCover(source, most)
		for range 20 {
			check(c, source.Intn(2*most), source.Intn(most+most/4))
		}
	}
}

func TestP8_3AGreaterLossIsPaidNoLessFor(t *testing.T) {
	check := func(c api.Cover, loss, used int) {
		if rise := cover.Pays(c, loss+1, used) - cover.Pays(c, loss, used); rise < 0 || rise > 1 {
			t.Errorf("%v, %d used: a cent more than %d pays %d more", c, used, loss, rise)
		}
	}
	for _, share := range []int{1, 100, 3333, 4999, 5000, 5001, 6667, 7500, 9998, 9999, 10000} {
		for _, used := range []int{0, 1, 17, 150, 400} {
			for loss := -3; loss < 500; loss++ {
				check(api.Cover{Limit: 300, Agg: 400, Ded: 20, Share: share}, loss, used)
			}
		}
		for loss := range 40000 {
			check(api.Cover{Limit: 100000, Agg: 200000, Ded: 7, Share: share}, loss, 0)
		}
	}
	source := rand.New(rand.NewSource(83))
	for range 500 {
		c := anyCover(source, 1000000000000000)
		for _, near := range []int{c.Ded, c.Limit, c.Ded + c.Limit, c.Agg, source.Intn(1000000000000000)} {
			for loss := near - 3; loss < near+3; loss++ {
				check(c, loss, source.Intn(c.Agg+1))
			}
		}
	}
}

func TestP8_3AllThatIsPaidIsTheAggregateAtMost(t *testing.T) {
	source := rand.New(rand.NewSource(84))
	for range 1000 {
		c := anyCover(source, []int{5, 100, 5000, 1000000000000000}[source.Intn(4)])
		used, asked := 0, 0
		for range 40 {
			loss := source.Intn(2 * c.Agg)
			paid, alone := cover.Pays(c, loss, used), cover.Pays(c, loss, 0)
			asked += alone
			used += paid
			if paid < 0 || paid > alone || used != min(asked, c.Agg) {
				t.Errorf("%v, a loss of %d: %d paid (%d alone), %d in all", c, loss, paid, alone, used)
			}
		}
		if used == c.Agg && cover.Pays(c, math.MaxInt, used) != 0 {
			t.Errorf("%v: more than all of it is paid", c)
		}
	}
}
