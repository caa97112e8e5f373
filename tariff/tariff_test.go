package tariff_test

import (
	"math"
	"math/rand"
	"slices"
	"testing"

	"bordereau/api"
	"bordereau/tariff"
)

// made is a version that may be; its numbers tell which one it is.
func made(from int) api.Version {
	return api.Version{
		From:  from,
		Base:  [4]int{50, 60, from % 1000, 100000},
		Age:   []api.Band{{Upto: 24, Bp: 15000}, {Upto: 69, Bp: from % 9000}},
		Zone:  []int{10000, 0, from % 7000},
		Peril: []int{1, 2, 3, 4, 5, 6, from % 8000, 100000},
		Min:   100 + from,
	}
}

// of is a tariff of versions of these Froms, in this order.
func of(froms ...int) api.Tariff {
	var t api.Tariff
	for _, from := range froms {
		t.Versions = append(t.Versions, made(from))
	}
	return t
}

// many is a tariff of n versions, each a step behind the one ahead.
func many(n, first, step int) api.Tariff {
	var t api.Tariff
	for i := range n {
		t.Versions = append(t.Versions, made(first+i*step))
	}
	return t
}

func filled(n, value int) []int {
	return slices.Repeat([]int{value}, n)
}

// bands is n bands that may be, for n up to 100.
func bands(n int) []api.Band {
	var l []api.Band
	for i := range n {
		l = append(l, api.Band{Upto: i, Bp: i})
	}
	return l
}

func clone(t api.Tariff) api.Tariff {
	var c api.Tariff
	for _, v := range t.Versions {
		c.Versions = append(c.Versions, cloneOf(v))
	}
	return c
}

func cloneOf(v api.Version) api.Version {
	v.Age, v.Zone, v.Peril = slices.Clone(v.Age), slices.Clone(v.Zone), slices.Clone(v.Peril)
	return v
}

func alike(a, b api.Version) bool {
	return a.From == b.From && a.Base == b.Base && a.Min == b.Min && slices.Equal(a.Age, b.Age) && slices.Equal(a.Zone, b.Zone) && slices.Equal(a.Peril, b.Peril)
}

func same(a, b api.Tariff) bool {
	return slices.EqualFunc(a.Versions, b.Versions, alike)
}

func froms(t api.Tariff) []int {
	var l []int
	for _, v := range t.Versions {
		l = append(l, v.From)
	}
	return l
}

// put puts a version that must find its place.
func put(t *testing.T, r api.Tariff, v api.Version) api.Tariff {
	t.Helper()
	next, code := tariff.Put(r, v)
	if code != api.OK {
		t.Fatalf("Put(%v, from %d): code %d", froms(r), v.From, code)
	}
	return next
}

// field is a number of a version, and from where to where it may be.
type field struct {
	name      string
	low, high int
	set       func(v *api.Version, n int)
}

func fields() []field {
	l := []field{
		{"From", 1, 292194, func(v *api.Version, n int) { v.From = n }},
		{"Min", 0, 1000000000000000, func(v *api.Version, n int) { v.Min = n }},
		{"the first Upto", 0, 68, func(v *api.Version, n int) { v.Age[0].Upto = n }},
		{"the last Upto", 25, 200, func(v *api.Version, n int) { v.Age[1].Upto = n }},
		{"the first age's Bp", 0, 100000, func(v *api.Version, n int) { v.Age[0].Bp = n }},
		{"the last age's Bp", 0, 100000, func(v *api.Version, n int) { v.Age[1].Bp = n }},
	}
	for i := range 4 {
		l = append(l, field{"Base", 0, 100000, func(v *api.Version, n int) { v.Base[i] = n }})
	}
	for i := range 3 {
		l = append(l, field{"Zone", 0, 100000, func(v *api.Version, n int) { v.Zone[i] = n }})
	}
	for i := range 8 {
		l = append(l, field{"Peril", 0, 100000, func(v *api.Version, n int) { v.Peril[i] = n }})
	}
	return l
}

// wrongs are numbers that aren't from low to high, such among them that would be if they were cut to 32 bits.
func wrongs(low, high int) []int {
	l := []int{low - 1, high + 1, low - 2, high + 2, math.MinInt, math.MaxInt, 1<<32 + low, -1<<32 + low, 1<<62 + high, math.MinInt + high}
	return slices.DeleteFunc(l, func(n int) bool { return n >= low && n <= high })
}

func TestP7_1EachNumberAtItsBounds(t *testing.T) {
	for i, f := range fields() {
		check := func(n int, want bool) {
			v := made(5)
			f.set(&v, n)
			if got := tariff.Version(v); got != want {
				t.Errorf("%s (%d) of %d: Version: %v; want %v", f.name, i, n, got, want)
			}
			if got := tariff.Right(api.Tariff{Versions: []api.Version{v}}); got != want {
				t.Errorf("%s (%d) of %d: Right: %v; want %v", f.name, i, n, got, want)
			}
		}
		for _, n := range []int{f.low, f.low + 1, f.high - 1, f.high} {
			check(n, true)
		}
		for _, n := range wrongs(f.low, f.high) {
			check(n, false)
		}
	}
}

func TestP7_1HowManyThereMayBe(t *testing.T) {
	check := func(name string, n int, v api.Version, want bool) {
		t.Helper()
		if got := tariff.Version(v); got != want {
			t.Errorf("%d %s: %v; want %v", n, name, got, want)
		}
	}
	for _, n := range []int{0, 1, 2, 7, 8, 9, 99, 100, 101, 102, 150, 200, 201, 300, 1 << 16, 1 << 20} {
		v := made(5)
		v.Zone = filled(n, 10000)
		check("zones", n, v, n >= 1 && n <= 100)
		v = made(5)
		v.Peril = filled(n, 10000)
		check("perils", n, v, n == 8)
		if n <= 201 {
			v = made(5)
			v.Age = bands(n)
			check("ages", n, v, n <= 100)
		}
	}
	v := made(5)
	v.Age, v.Zone, v.Peril = nil, nil, made(5).Peril
	check("zones (nil)", 0, v, false)
	v.Zone, v.Peril = []int{}, made(5).Peril
	check("zones", 0, v, false)
	v.Zone, v.Peril = []int{0}, nil
	check("perils (nil)", 0, v, false)
	v.Age, v.Peril = []api.Band{}, filled(8, 0)
	check("ages", 0, v, true)
	for _, n := range []int{3, 4, 5, 6, 7, 9, 10, 16} {
		v.Peril = filled(n, 0)
		check("perils", n, v, false)
	}
}

func TestP7_1FactorsOfAllPlaces(t *testing.T) {
	for place := range 100 {
		for _, wrong := range []int{-1, 100001, math.MinInt, math.MaxInt} {
			v := made(5)
			v.Zone = filled(100, 100000)
			v.Zone[place] = wrong
			if tariff.Version(v) {
				t.Errorf("a zone of %d at %d: true", wrong, place)
			}
			v = made(5)
			v.Age = bands(100)
			v.Age[place].Bp = wrong
			if tariff.Version(v) {
				t.Errorf("an age's factor of %d at %d: true", wrong, place)
			}
			if v = made(5); place < 8 {
				v.Peril[place] = wrong
				if tariff.Version(v) {
					t.Errorf("a peril of %d at %d: true", wrong, place)
				}
			}
		}
	}
	for _, factor := range []int{0, 1, 9999, 10000, 10001, 65536, 99999, 100000} {
		v := api.Version{From: 1, Base: [4]int{factor, factor, factor, factor}, Zone: filled(100, factor), Peril: filled(8, factor)}
		if !tariff.Version(v) {
			t.Errorf("all factors %d: false", factor)
		}
	}
}

func TestP7_1AgesThatAreNoBands(t *testing.T) {
	for _, l := range [][]api.Band{{{Upto: 30, Bp: 1}, {Upto: 30, Bp: 2}}, {{Upto: 30, Bp: 1}, {Upto: 29, Bp: 2}}, {{Upto: -1, Bp: 1}}, {{Upto: 201, Bp: 1}}, {{Upto: 5, Bp: 1}, {Upto: 9, Bp: 1}, {Upto: 5, Bp: 1}}} {
		v := made(5)
		v.Age = l
		if tariff.Version(v) {
			t.Errorf("ages %v: true", l)
		}
	}
	if tariff.Version(api.Version{}) {
		t.Error("the zero version: true")
	}
}

func TestP7_1Right(t *testing.T) {
	for _, x := range []struct {
		t    api.Tariff
		want bool
	}{
		{api.Tariff{}, true}, {api.Tariff{Versions: []api.Version{}}, true}, {of(1), true}, {of(292194), true}, {of(1, 2), true}, {of(10, 20), true}, {of(1, 292194), true}, {of(292193, 292194), true}, {of(3, 7, 8, 1000), true},
		{of(0), false}, {of(-1), false}, {of(292195), false}, {of(2, 2), false}, {of(3, 2), false}, {of(1, 1), false}, {of(292194, 292194), false}, {of(292194, 292195), false}, {of(0, 1), false}, {of(1, 2, 2), false}, {of(1, 3, 2), false}, {of(2, 1, 3), false}, {of(5, 9, 5), false}, {of(5, 9, 7), false}, {of(9, 9, 12), false},
		{many(99, 1, 1), true}, {many(100, 1, 1), true}, {many(100, 292095, 1), true}, {many(101, 1, 1), false}, {many(200, 1, 7), false}, {many(100, 100, -1), false}, {many(2000, 1, 1), false}, {many(100, 292096, 1), false},
	} {
		if got := tariff.Right(x.t); got != x.want {
			t.Errorf("Right of versions from %v: %v; want %v", froms(x.t), got, x.want)
		}
	}
}

func TestP7_1RightWithOneWrongVersion(t *testing.T) {
	for _, size := range []int{1, 2, 3, 100} {
		for place := range size {
			for i, f := range fields() {
				r := many(size, 10, 3)
				f.set(&r.Versions[place], f.high+1)
				if tariff.Right(r) {
					t.Errorf("%d versions, a wrong %s (%d) at %d: true", size, f.name, i, place)
				}
			}
			if place > 0 {
				r := many(size, 10, 3)
				r.Versions[place].From = r.Versions[place-1].From
				if tariff.Right(r) {
					t.Errorf("%d versions, two of one From at %d: true", size, place)
				}
			}
		}
	}
}

func TestP7_2At(t *testing.T) {
	r := of(10, 20)
	for _, x := range []struct {
		t         api.Tariff
		day, want int
	}{
		{r, 9, 0}, {r, 10, 10}, {r, 11, 10}, {r, 19, 10}, {r, 20, 20}, {r, 21, 20}, {r, 292194, 20},
		{r, 0, 0}, {r, -1, 0}, {r, -20, 0}, {r, math.MinInt, 0}, {r, math.MaxInt, 20}, {r, 292195, 20}, {r, 1<<32 + 10, 20}, {r, -1<<32 + 20, 0},
		{api.Tariff{}, 1, 0}, {api.Tariff{}, 0, 0}, {api.Tariff{}, math.MaxInt, 0}, {api.Tariff{}, math.MinInt, 0}, {of(1), 1, 1}, {of(1), 0, 0}, {of(292194), 292194, 292194}, {of(292194), 292193, 0},
		{many(100, 2, 2), 1, 0}, {many(100, 2, 2), 2, 2}, {many(100, 2, 2), 101, 100}, {many(100, 2, 2), 199, 198}, {many(100, 2, 2), 200, 200}, {many(100, 2, 2), 201, 200},
	} {
		checkAt(t, x.t, x.day, x.want)
	}
}

// checkAt holds At against the version of a From; 0 is none.
func checkAt(t *testing.T, r api.Tariff, day, from int) {
	t.Helper()
	want, code := api.Version{}, api.ErrNone
	if from != 0 {
		want, code = made(from), api.OK
	}
	if got, e := tariff.At(r, day); !alike(got, want) || e != code {
		t.Errorf("At(%v, %d): %v, code %d; want from %d, code %d", froms(r), day, got, e, from, code)
	}
}

func TestP7_2AtOfATariffThatIsNotRight(t *testing.T) {
	for _, x := range []struct {
		t         api.Tariff
		day, want int
	}{
		{of(20, 10), 9, 0}, {of(20, 10), 10, 10}, {of(20, 10), 20, 10}, {of(20, 10), 99, 10}, {of(20, 30, 10, 40), 35, 10}, {of(20, 10, 30), 25, 10}, {of(20, 10, 30), 30, 30}, {of(5, 30, 20), 29, 20}, {of(5, 30, 20), 19, 5}, {of(30, 5, 20), 30, 20},
		{of(-9, -3), -10, 0}, {of(-9, -3), -9, -9}, {of(-9, -3), -4, -9}, {of(-9, -3), -3, -3}, {of(-9, -3), 5, -3}, {of(292195, 300000), 292194, 0}, {of(292195, 300000), 299999, 292195},
		{of(math.MinInt), math.MinInt, math.MinInt}, {of(math.MaxInt - 200), math.MaxInt - 201, 0}, {of(math.MaxInt - 200), math.MaxInt, math.MaxInt - 200}, {of(math.MinInt), math.MaxInt, math.MinInt},
		{many(500, 1, 1), 350, 350}, {many(500, 1, 1), 500, 500}, {many(500, 500, -1), 500, 1},
	} {
		checkAt(t, x.t, x.day, x.want)
	}
	zero := api.Tariff{Versions: []api.Version{{}}}
	if v, code := tariff.At(zero, 0); !alike(v, api.Version{}) || code != api.OK {
		t.Errorf("At of a zero version, from day 0 on: %v, code %d", v, code)
	}
	if _, code := tariff.At(zero, -1); code != api.ErrNone {
		t.Errorf("At of a zero version, ahead of day 0: code %d", code)
	}
}

func TestP7_2OfTwoVersionsOfOneFromTheLastOne(t *testing.T) {
	r := of(10, 10, 10)
	for i := range r.Versions {
		r.Versions[i].Min = i
	}
	for _, day := range []int{10, 11, 500} {
		if v, code := tariff.At(r, day); v.Min != 2 || code != api.OK {
			t.Errorf("At of %d: that of place %d, code %d; want that of place 2", day, v.Min, code)
		}
	}
	wild := api.Version{From: 4, Base: [4]int{-1, math.MinInt, 5, math.MaxInt}, Age: bands(100)[50:], Zone: filled(3000, -7), Min: -5}
	r.Versions = append(r.Versions, wild)
	if v, code := tariff.At(r, 9); !alike(v, wild) || code != api.OK {
		t.Errorf("At of a version that may not be: %v, code %d", v, code)
	}
}

// lastAt is the place of the version that holds, by the words of P7.2, found from ahead; -1 is none.
func lastAt(r api.Tariff, day int) int {
	place := -1
	for i, v := range r.Versions {
		if v.From <= day {
			place = i
		}
	}
	return place
}

func TestP7_2AtOfAnyTariff(t *testing.T) {
	source := rand.New(rand.NewSource(7))
	for range 2000 {
		var r api.Tariff
		for i := range source.Intn(9) {
			v := made(source.Intn(20) - 3)
			v.Min = i
			r.Versions = append(r.Versions, v)
		}
		for day := -5; day < 20; day++ {
			v, code := tariff.At(r, day)
			place := lastAt(r, day)
			if place < 0 && (code != api.ErrNone || !alike(v, api.Version{})) {
				t.Errorf("At(%v, %d): %v, code %d; want none", froms(r), day, v, code)
			}
			if place >= 0 && (code != api.OK || !alike(v, r.Versions[place])) {
				t.Errorf("At(%v, %d): %v, code %d; want that of place %d", froms(r), day, v, code, place)
			}
		}
	}
}

func TestP7_3PutFindsAPlace(t *testing.T) {
	for _, x := range []struct {
		t    api.Tariff
		from int
		want api.Tariff
	}{
		{api.Tariff{}, 1, of(1)}, {api.Tariff{}, 292194, of(292194)}, {api.Tariff{Versions: []api.Version{}}, 5, of(5)},
		{of(10), 9, of(9, 10)}, {of(10), 11, of(10, 11)}, {of(10, 20), 1, of(1, 10, 20)}, {of(10, 20), 9, of(9, 10, 20)}, {of(10, 20), 11, of(10, 11, 20)}, {of(10, 20), 19, of(10, 19, 20)}, {of(10, 20), 21, of(10, 20, 21)}, {of(10, 20), 292194, of(10, 20, 292194)},
		{many(99, 1, 1), 100, many(100, 1, 1)}, {many(99, 2, 1), 1, many(100, 1, 1)},
	} {
		if got := put(t, x.t, made(x.from)); !same(got, x.want) {
			t.Errorf("Put(%v, from %d): %v; want %v", froms(x.t), x.from, froms(got), froms(x.want))
		}
	}
	for place := range 100 {
		whole := many(100, 3, 5)
		v := whole.Versions[place]
		rest := clone(whole)
		rest.Versions = slices.Delete(rest.Versions, place, place+1)
		if got := put(t, rest, v); !same(got, whole) {
			t.Errorf("a version put to the place %d of 100: %v", place, froms(got))
		}
	}
}

// checkCode holds Put's code against another one, and its tariff against none.
func checkCode(t *testing.T, r api.Tariff, v api.Version, want api.Errno) {
	t.Helper()
	got, code := tariff.Put(r, v)
	if code != want {
		t.Errorf("Put(%v, from %d): code %d; want %d", froms(r), v.From, code, want)
	}
	if len(got.Versions) != 0 {
		t.Errorf("Put(%v, from %d): code %d, and versions from %v", froms(r), v.From, code, froms(got))
	}
}

func TestP7_3PutOfWhatMayNotBe(t *testing.T) {
	for i, f := range fields() {
		t.Logf("wrong numbers of %s (%d)", f.name, i)
		for _, n := range wrongs(f.low, f.high) {
			v := made(5)
			f.set(&v, n)
			checkCode(t, of(10, 20), v, api.ErrArg)
			checkCode(t, api.Tariff{}, v, api.ErrArg)
			checkCode(t, api.Tariff{Versions: []api.Version{v}}, made(292190), api.ErrArg)
			checkCode(t, api.Tariff{Versions: []api.Version{v}}, made(1), api.ErrArg)
		}
	}
	checkCode(t, api.Tariff{}, api.Version{}, api.ErrArg)
	checkCode(t, api.Tariff{Versions: []api.Version{{}}}, made(5), api.ErrArg)
	for _, r := range []api.Tariff{of(3, 2), of(2, 2), of(0, 2), of(5, 292195), of(4, 9, 9), many(101, 2, 2), many(500, 2, 2)} {
		checkCode(t, r, made(1), api.ErrArg)
		checkCode(t, r, made(292194), api.ErrArg)
	}
}

func TestP7_3PutOfAFromThatIsThere(t *testing.T) {
	for _, r := range []api.Tariff{of(1), of(292194), of(10, 20), of(10, 20, 30), many(99, 7, 3), many(100, 7, 3)} {
		for _, v := range r.Versions {
			checkCode(t, r, v, api.ErrThere)
			v.Min, v.Age, v.Zone = v.Min+1, nil, []int{5}
			checkCode(t, r, v, api.ErrThere)
		}
	}
}

func TestP7_3PutToAFullTariff(t *testing.T) {
	full := many(100, 10, 2)
	for _, from := range []int{1, 9, 11, 101, 207, 209, 292194} {
		checkCode(t, full, made(from), api.ErrBound)
	}
	put(t, many(99, 10, 2), made(9))
}

func TestP7_3TheOrderOfCodes(t *testing.T) {
	full := many(100, 10, 2)
	wrong := made(12)
	wrong.Min = -1
	checkCode(t, full, wrong, api.ErrArg)
	checkCode(t, of(10, 12), wrong, api.ErrArg)
	wrong.From = 13
	checkCode(t, full, wrong, api.ErrArg)
	checkCode(t, full, made(12), api.ErrThere)
	checkCode(t, full, made(13), api.ErrBound)
	bad := many(100, 10, 2)
	bad.Versions[99].Peril[7] = -1
	checkCode(t, bad, made(12), api.ErrArg)
	checkCode(t, bad, made(13), api.ErrArg)
	checkCode(t, many(101, 10, 2), made(12), api.ErrArg)
}

func TestP7_4ATariffStaysRight(t *testing.T) {
	source := rand.New(rand.NewSource(74))
	for range 60 {
		var r api.Tariff
		for len(r.Versions) < 30 {
			v := made(1 + source.Intn(60))
			next, code := tariff.Put(r, v)
			if slices.Contains(froms(r), v.From) {
				if code != api.ErrThere {
					t.Fatalf("Put(%v, from %d): code %d; want ErrThere", froms(r), v.From, code)
				}
				continue
			}
			if code != api.OK || !tariff.Right(next) || len(next.Versions) != len(r.Versions)+1 {
				t.Fatalf("Put(%v, from %d): %v, code %d", froms(r), v.From, froms(next), code)
			}
			checkAhead(t, r, next, v)
			r = next
		}
	}
}

// checkAhead tells that ahead of a version that was put the tariff tells what it told, and that the version holds from its From up to the next one's.
func checkAhead(t *testing.T, before, behind api.Tariff, v api.Version) {
	t.Helper()
	for day := -1; day <= 62; day++ {
		told, code := tariff.At(before, day)
		if day >= v.From && (code == api.ErrNone || told.From < v.From) {
			told, code = v, api.OK
		}
		if got, e := tariff.At(behind, day); !alike(got, told) || e != code {
			t.Fatalf("of %v with one from %d: At of %d: from %d, code %d; want from %d, code %d", froms(before), v.From, day, got.From, e, told.From, code)
		}
	}
}

// orders goes through all orders of a list.
func orders(l []int, do func([]int)) {
	if len(l) == 0 {
		do(nil)
		return
	}
	for i, n := range l {
		rest := slices.Delete(slices.Clone(l), i, i+1)
		orders(rest, func(others []int) { do(append([]int{n}, others...)) })
	}
}

func TestP7_4AllOrdersMakeOneTariff(t *testing.T) {
	for _, l := range [][]int{{}, {7}, {1, 292194}, {10, 15, 20, 30}, {1, 2, 3, 100, 101, 5000}} {
		orders(l, func(order []int) {
			var r api.Tariff
			for _, from := range order {
				r = put(t, r, made(from))
			}
			if !same(r, of(l...)) {
				t.Errorf("put in the order %v: %v", order, froms(r))
			}
		})
	}
	source := rand.New(rand.NewSource(75))
	whole := many(100, 17, 2921)
	for range 20 {
		var r api.Tariff
		for _, i := range source.Perm(100) {
			r = put(t, r, whole.Versions[i])
		}
		if !same(r, whole) {
			t.Errorf("100 versions, put in any order: %v", froms(r))
		}
	}
}

// scribble writes into all that a version's lists hold, behind their ends too.
func scribble(v *api.Version) {
	for _, l := range [][]int{v.Zone[:cap(v.Zone)], v.Peril[:cap(v.Peril)]} {
		for i := range l {
			l[i] = -99
		}
	}
	ages := v.Age[:cap(v.Age)]
	for i := range ages {
		ages[i] = api.Band{Upto: -99, Bp: -99}
	}
}

func TestP7_2P7_3NothingIsWrittenInto(t *testing.T) {
	room := append(make([]api.Version, 0, 20), of(10, 20, 30).Versions...)
	behind := room[:20]
	r, v := api.Tariff{Versions: room}, made(25)
	given, one := clone(r), cloneOf(v)
	for _, from := range []int{1, 10, 15, 25, 35, 0} {
		v.From, one.From = from, from
		tariff.Version(v)
		tariff.Right(r)
		tariff.At(r, from)
		tariff.Put(r, v)
		if !same(r, given) || !alike(v, one) {
			t.Errorf("what was handed in became %v, %v", r, v)
		}
		for i, x := range behind[3:] {
			if !alike(x, api.Version{}) {
				t.Errorf("behind the last version, at %d: %v", i+3, x)
			}
		}
	}
}

func TestP7_2P7_3AnAnswerIsNewMemory(t *testing.T) {
	r, v := of(10, 20, 30), made(25)
	given, one := clone(r), cloneOf(v)
	got, _ := tariff.At(r, 20)
	scribble(&got)
	if !same(r, given) {
		t.Error("what At told shares memory with its tariff")
	}
	first, second := put(t, r, v), put(t, r, v)
	want := clone(second)
	for i := range first.Versions {
		scribble(&first.Versions[i])
		first.Versions[i].From = -99
	}
	if !same(r, given) || !alike(v, one) {
		t.Error("what Put told shares memory with what was handed in")
	}
	if !same(second, want) {
		t.Error("what Put told twice shares memory")
	}
	for i := range r.Versions {
		scribble(&r.Versions[i])
	}
	scribble(&v)
	if !same(second, want) {
		t.Error("what Put told changes with what was handed in")
	}
}

func TestP7_2P7_3ListsOfAnAnswerAreApart(t *testing.T) {
	shared := filled(8, 10000)
	ages := []api.Band{{Upto: 24, Bp: 15000}}
	version := func(from int) api.Version {
		return api.Version{From: from, Age: ages, Zone: shared, Peril: shared}
	}
	r := api.Tariff{Versions: []api.Version{version(10), version(20)}}
	got, _ := tariff.At(r, 15)
	got.Zone[0] = 1
	if got.Peril[0] != 10000 {
		t.Error("two lists of At's answer share memory")
	}
	next := put(t, r, version(15))
	next.Versions[0].Zone[0], next.Versions[0].Age[0].Bp = 1, 1
	for i, v := range next.Versions {
		if v.Peril[0] != 10000 || i > 0 && (v.Zone[0] != 10000 || v.Age[0].Bp != 15000) {
			t.Errorf("two lists of Put's answer share memory: %v", v)
		}
	}
	if shared[0] != 10000 || ages[0].Bp != 15000 {
		t.Error("an answer shares memory with what was handed in")
	}
}
