package risk_test

import (
	"math"
	"math/rand"
	"slices"
	"testing"

	"bordereau/api"
	"bordereau/risk"
)

// of is bands: Uptos and Bps by turns.
func of(l ...int) []api.Band {
	var bands []api.Band
	for i := 0; i < len(l); i += 2 {
		bands = append(bands, api.Band{Upto: l[i], Bp: l[i+1]})
	}
	return bands
}

// many is n bands whose Uptos rise from first on, by 1 each.
func many(n, first int) []api.Band {
	var bands []api.Band
	for i := range n {
		bands = append(bands, api.Band{Upto: first + i, Bp: 1000 + i})
	}
	return bands
}

// wrongs are numbers that aren't from low to high, such among them that would be if they were cut to 32 bits.
func wrongs(low, high int) []int {
	l := []int{low - 1, high + 1, low - 2, high + 2, math.MinInt, math.MaxInt, 1<<32 + low, -1<<32 + low, 1<<62 + high, math.MinInt + high}
	return slices.DeleteFunc(l, func(n int) bool { return n >= low && n <= high })
}

func TestP6_1RightAtItsBounds(t *testing.T) {
	for _, kind := range []int{api.RHome, api.RMotor, api.RTrade, api.RTravel} {
		for _, value := range []int{1, 2, 250000, 1 << 32, api.MaxMoney - 1, api.MaxMoney} {
			for _, age := range []int{0, 1, 24, 199, 200} {
				for _, zone := range []int{0, 1, 50, 98, 99} {
					r := api.Risk{Kind: kind, Value: value, Age: age, Zone: zone}
					if !risk.Right(r) {
						t.Errorf("Right(%v): false", r)
					}
				}
			}
		}
	}
}

func TestP6_1RightOfEachFieldAlone(t *testing.T) {
	for _, good := range []api.Risk{{Kind: 1, Value: 250000, Age: 40, Zone: 7}, {Value: 1}, {Kind: 3, Value: 1000000000000000, Age: 200, Zone: 99}} {
		for _, x := range []struct {
			name      string
			low, high int
			set       func(r *api.Risk, n int)
		}{
			{"Kind", 0, 3, func(r *api.Risk, n int) { r.Kind = n }},
			{"Value", 1, 1000000000000000, func(r *api.Risk, n int) { r.Value = n }},
			{"Age", 0, 200, func(r *api.Risk, n int) { r.Age = n }},
			{"Zone", 0, 99, func(r *api.Risk, n int) { r.Zone = n }},
		} {
			for _, n := range []int{x.low, x.low + 1, x.high - 1, x.high} {
				r := good
				x.set(&r, n)
				if !risk.Right(r) {
					t.Errorf("%s %d: Right(%v): false", x.name, n, r)
				}
			}
			for _, n := range wrongs(x.low, x.high) {
				r := good
				x.set(&r, n)
				if risk.Right(r) {
					t.Errorf("%s %d: Right(%v): true", x.name, n, r)
				}
			}
		}
	}
	if risk.Right(api.Risk{}) {
		t.Error("Right of the zero risk: true")
	}
}

func TestP6_2BandsThatMayBe(t *testing.T) {
	for _, l := range [][]api.Band{
		nil, {}, of(24, 15000, 69, 9000), of(0, 0), of(200, 100000), of(0, 100000, 200, 0), of(0, 5, 1, 5, 2, 5), of(199, 1, 200, 1), of(7, 100000), of(7, 99999), of(7, 1),
		many(1, 0), many(99, 0), many(100, 0), many(100, 1), many(100, 101),
	} {
		if !risk.Bands(l) {
			t.Errorf("Bands(%v): false", l)
		}
	}
}

func TestP6_2BandsThatMayNotBe(t *testing.T) {
	for _, l := range [][]api.Band{
		of(24, 1, 24, 2), of(24, 1, 24, 1), of(24, 1, 23, 2), of(0, 1, 0, 2), of(200, 1, 200, 2), of(5, 1, 9, 2, 9, 3), of(5, 1, 9, 2, 8, 3), of(5, 1, 9, 2, 5, 3), of(5, 1, 4, 2, 9, 3), of(9, 1, 9, 2, 12, 3),
		of(-1, 5), of(201, 5), of(5, -1), of(5, 100001), of(-1, 5, 3, 5), of(3, 5, 201, 5), of(3, -1, 4, 5), of(3, 5, 4, -1), of(3, 100001, 4, 5), of(3, 5, 4, 100001), of(3, 5, -1, 5), of(math.MaxInt, 5, math.MinInt, 5),
		many(101, 0), many(101, 100), many(150, 0), many(201, 0), make([]api.Band, 101),
	} {
		if risk.Bands(l) {
			t.Errorf("Bands(%v): true", l)
		}
	}
}

func TestP6_2BandsWithOneWrongNumber(t *testing.T) {
	for _, size := range []int{1, 2, 3, 50, 100} {
		for place := range size {
			for _, upto := range wrongs(0, 200) {
				l := many(size, 20)
				l[place].Upto = upto
				if risk.Bands(l) {
					t.Errorf("%d bands, Upto %d at %d: true", size, upto, place)
				}
			}
			for _, bp := range wrongs(0, 100000) {
				l := many(size, 20)
				l[place].Bp = bp
				if risk.Bands(l) {
					t.Errorf("%d bands, Bp %d at %d: true", size, bp, place)
				}
			}
			if place > 0 {
				l := many(size, 20)
				l[place].Upto = l[place-1].Upto
				if risk.Bands(l) {
					t.Errorf("%d bands, two alike at %d: true", size, place)
				}
			}
		}
	}
}

// mayBe tells by the words of P6.2, one by one, whether bands may be.
func mayBe(l []api.Band) bool {
	if len(l) > 100 {
		return false
	}
	for i, b := range l {
		if b.Upto < 0 || b.Upto > 200 || b.Bp < 0 || b.Bp > 100000 {
			return false
		}
		for _, ahead := range l[:i] {
			if ahead.Upto >= b.Upto {
				return false
			}
		}
	}
	return true
}

func TestP6_2BandsOfAllThrees(t *testing.T) {
	uptos := []int{-1, 0, 1, 2, 199, 200, 201}
	bps := []int{-1, 0, 1, 100000, 100001}
	for _, a := range uptos {
		for _, b := range uptos {
			for _, c := range uptos {
				for _, bp := range bps {
					for place := range 3 {
						l := of(a, 5, b, 5, c, 5)
						l[place].Bp = bp
						for n := range 4 {
							if got, want := risk.Bands(l[:n]), mayBe(l[:n]); got != want {
								t.Errorf("Bands(%v): %v; want %v", l[:n], got, want)
							}
						}
					}
				}
			}
		}
	}
}

func TestP6_3Band(t *testing.T) {
	l := of(24, 15000, 69, 9000)
	for _, x := range []struct {
		l         []api.Band
		age, want int
	}{
		{l, 0, 15000}, {l, 23, 15000}, {l, 24, 15000}, {l, 25, 9000}, {l, 68, 9000}, {l, 69, 9000}, {l, 70, 10000}, {l, 200, 10000}, {l, 201, 10000},
		{l, -1, 15000}, {l, math.MinInt, 15000}, {l, math.MaxInt, 10000}, {l, 1<<32 + 24, 10000}, {l, -1<<32 + 70, 15000},
		{nil, 0, 10000}, {nil, -1, 10000}, {nil, math.MaxInt, 10000}, {nil, math.MinInt, 10000}, {[]api.Band{}, 24, 10000},
		{of(0, 7), 0, 7}, {of(0, 7), 1, 10000}, {of(200, 7), 200, 7}, {of(200, 7), 201, 10000}, {of(5, 0), 5, 0}, {of(5, 100000), 5, 100000},
	} {
		if got := risk.Band(x.l, x.age); got != x.want {
			t.Errorf("Band(%v, %d): %d; want %d", x.l, x.age, got, x.want)
		}
	}
}

func TestP6_3BandOfBandsThatMayNotBe(t *testing.T) {
	for _, x := range []struct {
		l         []api.Band
		age, want int
	}{
		{of(5, 1, 3, 2), 3, 1}, {of(5, 1, 3, 2), 6, 10000}, {of(5, 1, 3, 2, 9, 3), 6, 3}, {of(3, 1, 9, 2, 5, 3), 4, 2}, {of(9, 1, 3, 2, 5, 3), 3, 1}, {of(3, 1, 1, 2, 9, 3, 4, 4), 4, 3},
		{of(5, 1, 5, 2), 5, 1}, {of(4, 1, 5, 2, 5, 3), 5, 2}, {of(-9, 4, -3, 5), -9, 4}, {of(-9, 4, -3, 5), -8, 5}, {of(-9, 4, -3, 5), -2, 10000}, {of(-9, 4, -3, 5), math.MinInt, 4},
		{of(math.MaxInt, 6), math.MaxInt, 6}, {of(math.MaxInt-1, 6), math.MaxInt, 10000}, {of(math.MinInt, 6), math.MinInt, 6}, {of(math.MinInt, 6), math.MinInt + 1, 10000}, {of(math.MinInt, 6), math.MaxInt, 10000}, {of(math.MaxInt, 6), math.MinInt, 6},
		{of(5, -7), 5, -7}, {of(5, math.MinInt), 5, math.MinInt}, {of(5, math.MaxInt), 0, math.MaxInt}, {of(300, 100001), 299, 100001},
		{many(500, 0), 499, 1499}, {many(500, 0), 500, 10000}, {many(500, 0), 101, 1101},
	} {
		if got := risk.Band(x.l, x.age); got != x.want {
			t.Errorf("Band(%v, %d): %d; want %d", x.l, x.age, got, x.want)
		}
	}
}

func TestP6_3BandOfVeryManyBands(t *testing.T) {
	const size = 1 << 20
	l := make([]api.Band, size)
	l[size-1] = api.Band{Upto: 9, Bp: 3}
	if got := risk.Band(l, 9); got != 3 {
		t.Errorf("the last one's: %d; want 3", got)
	}
	if got := risk.Band(l, 10); got != 10000 {
		t.Errorf("none's: %d; want 10000", got)
	}
}

// firstOf is the Bp of the first band that isn't below an age, found from behind.
func firstOf(l []api.Band, age int) int {
	bp := 10000
	for i := len(l) - 1; i >= 0; i-- {
		if l[i].Upto >= age {
			bp = l[i].Bp
		}
	}
	return bp
}

func TestP6_3BandOfAnyBands(t *testing.T) {
	source := rand.New(rand.NewSource(6))
	for range 3000 {
		var l []api.Band
		for range source.Intn(12) {
			l = append(l, api.Band{Upto: source.Intn(30) - 5, Bp: source.Intn(200) - 50})
		}
		for age := -8; age < 30; age++ {
			if got, want := risk.Band(l, age), firstOf(l, age); got != want {
				t.Errorf("Band(%v, %d): %d; want %d", l, age, got, want)
			}
		}
	}
}

// leastOf is the band of the least Upto that isn't below an age.
func leastOf(l []api.Band, age int) (least api.Band, there bool) {
	for _, b := range l {
		if b.Upto >= age && (!there || b.Upto < least.Upto) {
			least, there = b, true
		}
	}
	return least, there
}

func TestP6_4EachAgeHasTheLeastBandOfRightOnes(t *testing.T) {
	source := rand.New(rand.NewSource(7))
	for range 300 {
		var l []api.Band
		for upto := range 201 {
			if len(l) < 100 && source.Intn(8) == 0 {
				l = append(l, api.Band{Upto: upto, Bp: source.Intn(100001)})
			}
		}
		if !risk.Bands(l) {
			t.Fatalf("Bands(%v): false", l)
		}
		for age := -2; age <= 203; age++ {
			want := 10000
			if b, there := leastOf(l, age); there {
				want = b.Bp
			}
			if got := risk.Band(l, age); got != want {
				t.Errorf("Band(%v, %d): %d; want %d", l, age, got, want)
			}
		}
		for i := 1; i < len(l); i++ {
			for age := l[i-1].Upto + 1; age <= l[i].Upto; age++ {
				if got := risk.Band(l, age); got != l[i].Bp {
					t.Errorf("Band(%v, %d), between neighbours: %d; want %d", l, age, got, l[i].Bp)
				}
			}
		}
	}
}

func TestP6_2P6_3BandsAreNotWrittenInto(t *testing.T) {
	for _, l := range [][]api.Band{of(24, 15000, 69, 9000, 80, 1), of(9, 1, 3, 2, 5, 3), of(-1, -1, 500, 500)} {
		given := slices.Clone(l)
		for n := range len(l) + 1 {
			risk.Bands(l[:n])
			risk.Band(l[:n], 70)
			risk.Band(l[:n], 4)
		}
		if !slices.Equal(l, given) {
			t.Errorf("%v became %v", given, l)
		}
	}
}
