package accrue_test

import (
	"math"
	"math/big"
	"math/rand"
	list "slices"
	"testing"

	"bordereau/accrue"
	"bordereau/api"
	"bordereau/change"
	"bordereau/slices"
	"bordereau/span"
	"bordereau/step"
)

const (
	maxDay  = 292194
	maxSum  = 4000000000000000000
	maxRows = 2000
)

func of(from, to int) api.Span { return api.Span{From: from, To: to} }

// costs is a slice of which a year costs so much.
func costs(from, to, yearly int) api.Slice {
	return api.Slice{Span: of(from, to), On: true, Yearly: yearly}
}

func stepOf(at, val []int) api.Step { return api.Step{At: at, Val: val} }

func sameStep(f, g api.Step) bool { return list.Equal(f.At, g.At) && list.Equal(f.Val, g.Val) }

func sameSlice(a, b api.Slice) bool {
	return a.Span == b.Span && a.On == b.On && a.Risk == b.Risk && list.Equal(a.Covers, b.Covers) && a.Yearly == b.Yearly
}

func clone(l []api.Slice) []api.Slice {
	l = list.Clone(l)
	for i := range l {
		l[i].Covers = list.Clone(l[i].Covers)
	}
	return l
}

// mayBe tells by the words of P14.1, one by one, whether slices have a curve.
func mayBe(l []api.Slice) bool {
	if len(l) > maxRows {
		return false
	}
	for i, s := range l {
		if !(1 <= s.Span.From && s.Span.From < s.Span.To && s.Span.To <= maxDay+1) {
			return false
		}
		if i > 0 && s.Span.From < l[i-1].Span.To {
			return false
		}
		if s.Yearly < 0 || s.Yearly > maxSum {
			return false
		}
	}
	return true
}

// yearlyOn is what a year costs on a day, by the slice that has it.
func yearlyOn(l []api.Slice, day int) int {
	for _, s := range l {
		if s.Span.From <= day && day < s.Span.To {
			return s.Yearly
		}
	}
	return 0
}

// yearliesAhead is what years cost on all days ahead of a day, together.
func yearliesAhead(l []api.Slice, day int) *big.Int {
	all := new(big.Int)
	for _, s := range l {
		if day > s.Span.From {
			days := min(s.Span.To, day) - s.Span.From
			all.Add(all, new(big.Int).Mul(big.NewInt(int64(days)), big.NewInt(int64(s.Yearly))))
		}
	}
	return all
}

// earnedAhead is what is earned ahead of a day, or ErrOver. It is rounded by twice the rest, held against 365: of an odd number of parts none is a half.
func earnedAhead(l []api.Slice, day int) (int, api.Errno) {
	all := yearliesAhead(l, day)
	if all.Cmp(big.NewInt(maxSum)) > 0 {
		return 0, api.ErrOver
	}
	cents, rest := new(big.Int).DivMod(all, big.NewInt(365), new(big.Int))
	if 2*rest.Int64() > 365 {
		return int(cents.Int64()) + 1, api.OK
	}
	return int(cents.Int64()), api.OK
}

// edgeDays are days at the bounds of slices and next to them, and numbers that are no days.
func edgeDays(l []api.Slice) []int {
	days := []int{math.MinInt, -1 << 32, -365, -1, 0, 1, 2, 3, maxDay - 1, maxDay, maxDay + 1, maxDay + 2, 1<<32 + 5, math.MaxInt - 1, math.MaxInt}
	for _, s := range l {
		for d := -1; d <= 1; d++ {
			days = append(days, s.Span.From+d, s.Span.To+d)
		}
	}
	return days
}

func checkCurve(t *testing.T, name string, l []api.Slice, want api.Step) {
	t.Helper()
	before := clone(l)
	if f, code := accrue.Curve(l); code != api.OK || !sameStep(f, want) || !step.Right(f) {
		t.Errorf("%s: Curve of %v: %v, code %d; want %v", name, l, f, code, want)
	}
	if !list.EqualFunc(l, before, sameSlice) {
		t.Errorf("%s: Curve changed %v to %v", name, before, l)
	}
}

// checkWrong asks all four calls of slices that have no curve.
func checkWrong(t *testing.T, name string, l []api.Slice) {
	t.Helper()
	before := clone(l)
	if f, code := accrue.Curve(l); code != api.ErrArg || len(f.At) != 0 || len(f.Val) != 0 {
		t.Errorf("%s: Curve: %v, code %d; want none, code 1", name, f, code)
	}
	for _, day := range []int{math.MinInt, 0, 1, 2, 3, maxDay + 1, math.MaxInt} {
		if n, code := accrue.Upto(l, day); n != 0 || code != api.ErrArg {
			t.Errorf("%s: Upto %d: %d, code %d; want 0, code 1", name, day, n, code)
		}
	}
	if n, code := accrue.Written(l); n != 0 || code != api.ErrArg {
		t.Errorf("%s: Written: %d, code %d; want 0, code 1", name, n, code)
	}
	for _, s := range []api.Span{of(1, 1), of(1, 2), of(1, maxDay+1), of(0, 2), of(3, 2)} {
		if n, code := accrue.Between(l, s); n != 0 || code != api.ErrArg {
			t.Errorf("%s: Between %v: %d, code %d; want 0, code 1", name, s, n, code)
		}
	}
	if !list.EqualFunc(l, before, sameSlice) {
		t.Errorf("%s: a call changed its slices", name)
	}
}

func checkUpto(t *testing.T, name string, l []api.Slice, day, want int, wantCode api.Errno) {
	t.Helper()
	before := clone(l)
	if n, code := accrue.Upto(l, day); n != want || code != wantCode {
		t.Errorf("%s: Upto %d of %v: %d, code %d; want %d, code %d", name, day, l, n, code, want, wantCode)
	}
	if !list.EqualFunc(l, before, sameSlice) {
		t.Errorf("%s: Upto changed %v to %v", name, before, l)
	}
}

func checkWritten(t *testing.T, name string, l []api.Slice, want int, wantCode api.Errno) {
	t.Helper()
	before := clone(l)
	if n, code := accrue.Written(l); n != want || code != wantCode {
		t.Errorf("%s: Written of %v: %d, code %d; want %d, code %d", name, l, n, code, want, wantCode)
	}
	if !list.EqualFunc(l, before, sameSlice) {
		t.Errorf("%s: Written changed %v to %v", name, before, l)
	}
}

func checkBetween(t *testing.T, name string, l []api.Slice, s api.Span, want int, wantCode api.Errno) {
	t.Helper()
	before := clone(l)
	if n, code := accrue.Between(l, s); n != want || code != wantCode {
		t.Errorf("%s: Between %v of %v: %d, code %d; want %d, code %d", name, s, l, n, code, want, wantCode)
	}
	if !list.EqualFunc(l, before, sameSlice) {
		t.Errorf("%s: Between changed %v to %v", name, before, l)
	}
}

func upto(t *testing.T, l []api.Slice, day int) int {
	t.Helper()
	n, code := accrue.Upto(l, day)
	if code != api.OK {
		t.Fatalf("Upto %d of %v: code %d", day, l, code)
	}
	return n
}

func between(t *testing.T, l []api.Slice, from, to int) int {
	t.Helper()
	n, code := accrue.Between(l, of(from, to))
	if code != api.OK {
		t.Fatalf("Between %d and %d of %v: code %d", from, to, l, code)
	}
	return n
}

func written(t *testing.T, l []api.Slice) int {
	t.Helper()
	n, code := accrue.Written(l)
	if code != api.OK {
		t.Fatalf("Written of %v: code %d", l, code)
	}
	return n
}

// anySlices are a few slices from a day on, with gaps of days and years that cost the same or nothing now and then.
func anySlices(r *rand.Rand, from, most int) []api.Slice {
	var l []api.Slice
	for range r.Intn(7) {
		from += r.Intn(3)
		to := min(from+1+r.Intn(6), maxDay+1)
		if from >= to {
			break
		}
		l = append(l, costs(from, to, []int{0, 1, 7, 182, 183, 365, r.Intn(most), r.Intn(most)}[r.Intn(8)]))
		from = to
	}
	return l
}

// anyStart is a day near one of the calendar's ends, or between.
func anyStart(r *rand.Rand) int {
	return []int{1, 1 + r.Intn(4), 1 + r.Intn(1000), maxDay - r.Intn(30)}[r.Intn(4)]
}

func TestP14_1Curve(t *testing.T) {
	for _, x := range []struct {
		name string
		l    []api.Slice
		want api.Step
	}{
		{"no slices", nil, api.Step{}},
		{"an empty list", []api.Slice{}, api.Step{}},
		{"one from the first day on", []api.Slice{costs(1, 366, 365)}, stepOf([]int{1, 366}, []int{365, 0})},
		{"one behind the first day", []api.Slice{costs(3, 5, 7)}, stepOf([]int{3, 5}, []int{7, 0})},
		{"one day", []api.Slice{costs(1, 2, 7)}, stepOf([]int{1, 2}, []int{7, 0})},
		{"the last day", []api.Slice{costs(maxDay, maxDay+1, 7)}, stepOf([]int{maxDay}, []int{7})},
		{"the last day but one", []api.Slice{costs(maxDay-1, maxDay, 7)}, stepOf([]int{maxDay - 1, maxDay}, []int{7, 0})},
		{"all days", []api.Slice{costs(1, maxDay+1, maxSum)}, stepOf([]int{1}, []int{maxSum})},
		{"all days, for nothing", []api.Slice{costs(1, maxDay+1, 0)}, api.Step{}},
		{"the least", []api.Slice{costs(3, 5, 1)}, stepOf([]int{3, 5}, []int{1, 0})},
		{"for nothing", []api.Slice{costs(3, 5, 0), costs(5, 9, 0)}, api.Step{}},
		{"on end", []api.Slice{costs(1, 5, 7), costs(5, 9, 8)}, stepOf([]int{1, 5, 9}, []int{7, 8, 0})},
		{"on end, alike", []api.Slice{costs(2, 5, 7), costs(5, 9, 7)}, stepOf([]int{2, 9}, []int{7, 0})},
		{"a gap", []api.Slice{costs(1, 5, 7), costs(6, 9, 8)}, stepOf([]int{1, 5, 6, 9}, []int{7, 0, 8, 0})},
		{"a gap, alike", []api.Slice{costs(2, 5, 7), costs(6, 9, 7)}, stepOf([]int{2, 5, 6, 9}, []int{7, 0, 7, 0})},
		{"a gap, then nothing", []api.Slice{costs(2, 5, 7), costs(6, 9, 0)}, stepOf([]int{2, 5}, []int{7, 0})},
		{"nothing at first", []api.Slice{costs(2, 5, 0), costs(5, 9, 7)}, stepOf([]int{5, 9}, []int{7, 0})},
		{"nothing, then a gap", []api.Slice{costs(2, 5, 0), costs(7, 9, 7)}, stepOf([]int{7, 9}, []int{7, 0})},
		{"nothing between", []api.Slice{costs(2, 5, 7), costs(5, 6, 0), costs(6, 9, 7)}, stepOf([]int{2, 5, 6, 9}, []int{7, 0, 7, 0})},
		{"up to the last day", []api.Slice{costs(2, 5, 7), costs(5, maxDay+1, 8)}, stepOf([]int{2, 5}, []int{7, 8})},
		{"a gap up to the last day", []api.Slice{costs(1, 2, 7), costs(maxDay, maxDay+1, 7)}, stepOf([]int{1, 2, maxDay}, []int{7, 0, 7})},
	} {
		checkCurve(t, x.name, x.l, x.want)
	}
}

// What costs is told by Yearly alone.
func TestP14_1OtherPartsPlayNoPart(t *testing.T) {
	cover := api.Cover{Peril: 1, Limit: 1000, Agg: 1500, Ded: 100, Share: 10000}
	odd := []api.Cover{{Peril: 9, Limit: -1}, {Peril: 9, Share: 20000}}
	for _, s := range []api.Slice{
		{Span: of(3, 5), Yearly: 7},
		{Span: of(3, 5), On: true, Yearly: 7},
		{Span: of(3, 5), Yearly: 7, Risk: api.Risk{Kind: 1, Value: 3, Age: 4, Zone: 5}, Covers: []api.Cover{cover}},
		{Span: of(3, 5), On: true, Yearly: 7, Risk: api.Risk{Kind: -1, Value: -3, Age: 400, Zone: -5}, Covers: odd},
	} {
		checkCurve(t, "one", []api.Slice{s}, stepOf([]int{3, 5}, []int{7, 0}))
		checkUpto(t, "one", []api.Slice{{Span: of(1, 3), On: true, Yearly: 365}, s}, 5, 2, api.OK)
		other := s
		other.Span, other.On = of(5, 9), !s.On
		checkCurve(t, "two", []api.Slice{s, other}, stepOf([]int{3, 9}, []int{7, 0}))
	}
}

// wrongSlices are such that may stand nowhere in a list.
func wrongSlices() map[string]api.Slice {
	return map[string]api.Slice{
		"no days": costs(50, 50, 7), "no days at first": costs(1, 1, 7), "no days at last": costs(maxDay+1, maxDay+1, 7), "the zero slice": {},
		"the wrong way round": costs(51, 50, 7), "from 0": costs(0, 50, 7), "from below 0": costs(-3, 50, 7), "from the least": costs(math.MinInt, 50, 7), "ahead of all days": costs(-9, -3, 7),
		"past the last day": costs(50, maxDay+2, 7), "the greatest": costs(50, math.MaxInt, 7), "behind all days": costs(maxDay+1, maxDay+2, 7), "all numbers": costs(math.MinInt, math.MaxInt, 7), "wrapped": costs(1<<32+50, 1<<32+60, 7), "to wrapped": costs(50, 1<<32+60, 7),
		"below 0": costs(50, 60, -1), "the least cost": costs(50, 60, math.MinInt), "too much": costs(50, 60, maxSum+1), "the greatest cost": costs(50, 60, math.MaxInt),
		"off, from 0": {Span: of(0, 50)}, "off, below 0": {Span: of(50, 60), Yearly: -1}, "off, too much": {Span: of(50, 60), Yearly: maxSum + 1},
	}
}

func TestP14_1Codes(t *testing.T) {
	for name, s := range wrongSlices() {
		checkWrong(t, name+", alone", []api.Slice{s})
		checkWrong(t, name+", first", []api.Slice{s, costs(100, 110, 7)})
		checkWrong(t, name+", last", []api.Slice{costs(10, 20, 7), s})
		checkWrong(t, name+", between", []api.Slice{costs(10, 20, 7), s, costs(100, 110, 7)})
		checkWrong(t, name+", behind what is too much", []api.Slice{costs(1, 30, maxSum), s})
	}
	for name, l := range map[string][]api.Slice{
		"a day shared":             {costs(1, 5, 7), costs(4, 6, 7)},
		"all days shared":          {costs(1, 5, 7), costs(1, 5, 7)},
		"the first day shared":     {costs(1, 5, 7), costs(1, 2, 7)},
		"in another one":           {costs(1, 9, 7), costs(3, 5, 7)},
		"falling":                  {costs(5, 9, 7), costs(1, 5, 7)},
		"falling, with a gap":      {costs(6, 9, 7), costs(1, 5, 7)},
		"the last falls":           {costs(1, 5, 7), costs(8, 9, 7), costs(5, 8, 7)},
		"the last shares a day":    {costs(1, 5, 7), costs(8, 9, 7), costs(8, 10, 7)},
		"a day shared for nothing": {costs(1, 5, 0), costs(4, 6, 0)},
		"the last day twice":       {costs(maxDay, maxDay+1, 7), costs(maxDay, maxDay+1, 7)},
	} {
		checkWrong(t, name, l)
	}
}

// All pairs of spans at the calendar's edges and between, held against the promise's words.
func TestP14_1AllPairs(t *testing.T) {
	bounds := []int{math.MinInt, -1, 0, 1, 2, 3, 4, maxDay, maxDay + 1, maxDay + 2, math.MaxInt}
	var spans []api.Span
	for _, from := range bounds {
		for _, to := range bounds {
			spans = append(spans, of(from, to))
		}
	}
	fine := 0
	for _, a := range spans {
		for _, b := range spans {
			l := []api.Slice{costs(a.From, a.To, 3), costs(b.From, b.To, 4)}
			want := api.ErrArg
			if mayBe(l) {
				want = api.OK
				fine++
			}
			f, code := accrue.Curve(l)
			if code != want {
				t.Errorf("Curve of %v: code %d; want %d", l, code, want)
			}
			for _, day := range []int{1, 2, 3, 4, 5, maxDay - 1, maxDay} {
				held := 0
				if want == api.OK {
					held = yearlyOn(l, day)
				}
				if step.At(f, day) != held {
					t.Errorf("Curve of %v: %d on %d; want %d", l, step.At(f, day), day, held)
				}
			}
		}
	}
	if fine < 20 {
		t.Errorf("only %d pairs were right", fine)
	}
}

// rows are so many slices of a day each, on end or with a gap of a day, of which neighbours differ.
func rows(many, apart int) []api.Slice {
	var l []api.Slice
	for i := range many {
		l = append(l, costs(1+i*apart, 2+i*apart, 365*(1+i%2)))
	}
	return l
}

func TestP14_1ManySlices(t *testing.T) {
	for _, apart := range []int{1, 2} {
		for _, many := range []int{maxRows - 1, maxRows} {
			l := rows(many, apart)
			f, code := accrue.Curve(l)
			if code != api.OK || len(f.At) != many*apart+2-apart || !step.Right(f) {
				t.Errorf("%d slices: %d days of change, code %d", many, len(f.At), code)
			}
			checkUpto(t, "many", l, 2, 1, api.OK)
			want := many + many/2
			if n := written(t, l); n != want {
				t.Errorf("%d slices: Written %d; want %d", many, n, want)
			}
		}
		checkWrong(t, "too many", rows(maxRows+1, apart))
		checkWrong(t, "far too many", rows(2*maxRows, apart))
	}
	checkWrong(t, "too many that cost too much", append(rows(maxRows, 1), costs(9000, 9999, maxSum)))
}

func TestP14_1DayByDay(t *testing.T) {
	r := rand.New(rand.NewSource(141))
	for range 3000 {
		l := anySlices(r, anyStart(r), 1000)
		before := clone(l)
		f, code := accrue.Curve(l)
		if code != api.OK || !step.Right(f) {
			t.Fatalf("Curve of %v: %v, code %d", l, f, code)
		}
		if !list.EqualFunc(l, before, sameSlice) {
			t.Errorf("Curve changed %v to %v", before, l)
		}
		days := edgeDays(l)
		for i := range 60 {
			if len(l) > 0 {
				days = append(days, l[0].Span.From+i-5)
			}
		}
		for _, day := range days {
			if day >= 1 && day <= maxDay && step.At(f, day) != yearlyOn(l, day) {
				t.Errorf("Curve of %v: %d on %d; want %d", l, step.At(f, day), day, yearlyOn(l, day))
			}
		}
	}
}

// One number of right slices is changed: it is told as the promise's words tell it.
func TestP14_1OneNumberChanged(t *testing.T) {
	r := rand.New(rand.NewSource(1411))
	wrong := 0
	for range 5000 {
		l := anySlices(r, 1+r.Intn(5), 1000)
		if len(l) == 0 {
			continue
		}
		s := &l[r.Intn(len(l))]
		switch r.Intn(3) {
		case 0:
			s.Span.From += r.Intn(5) - 2
		case 1:
			s.Span.To += r.Intn(5) - 2
		case 2:
			s.Yearly = []int{-1, 0, maxSum, maxSum + 1}[r.Intn(4)]
		}
		f, code := accrue.Curve(l)
		if mayBe(l) {
			if code != api.OK || !step.Right(f) {
				t.Errorf("Curve of %v: %v, code %d", l, f, code)
			}
			continue
		}
		wrong++
		checkWrong(t, "changed", l)
	}
	if wrong < 500 {
		t.Errorf("only %d were wrong", wrong)
	}
}

// What was told stays, whatever is asked later, and whatever is done to the slices or to it.
func TestP14_1Memory(t *testing.T) {
	l := []api.Slice{costs(3, 5, 7), costs(5, 9, 8), costs(12, 20, 9)}
	want := stepOf([]int{3, 5, 9, 12, 20}, []int{7, 8, 0, 9, 0})
	first, _ := accrue.Curve(l)
	second, _ := accrue.Curve(l)
	first.At[0], first.Val[0] = 1, 1
	first.At, first.Val = append(first.At[:2], 4), append(first.Val[:2], 4)
	if !sameStep(second, want) {
		t.Errorf("two curves share memory: %v", second)
	}
	l[0].Yearly = 77
	if !sameStep(second, want) {
		t.Errorf("a curve shares memory with its slices: %v", second)
	}
	l[0].Yearly = 7
	checkCurve(t, "again", l, want)
}

func TestP14_2Upto(t *testing.T) {
	year := []api.Slice{costs(1, 366, 365)}
	for day, want := range map[int]int{math.MinInt: 0, -5: 0, 0: 0, 1: 0, 2: 1, 11: 10, 365: 364, 366: 365, 367: 365, maxDay: 365, maxDay + 1: 365, maxDay + 2: 365, math.MaxInt: 365} {
		checkUpto(t, "a year", year, day, want, api.OK)
		checkUpto(t, "nothing", nil, day, 0, api.OK)
		checkUpto(t, "for nothing", []api.Slice{costs(1, 366, 0)}, day, 0, api.OK)
	}
	last := []api.Slice{costs(maxDay, maxDay+1, 730)}
	for day, want := range map[int]int{1: 0, 2: 0, maxDay - 1: 0, maxDay: 0, maxDay + 1: 2, maxDay + 2: 2, math.MaxInt: 2} {
		checkUpto(t, "the last day", last, day, want, api.OK)
	}
	two := []api.Slice{costs(3, 5, 365), costs(5, 8, 0), costs(9, 11, 730)}
	for day, want := range map[int]int{1: 0, 3: 0, 4: 1, 5: 2, 6: 2, 8: 2, 9: 2, 10: 4, 11: 6, 12: 6} {
		checkUpto(t, "two", two, day, want, api.OK)
	}
	// All years have 365 parts, those of 366 days too: 1604 is the first leap year, and has its days 1096 to 1461.
	checkUpto(t, "a leap year", []api.Slice{costs(1096, 1462, 365)}, maxDay, 366, api.OK)
	checkUpto(t, "all days", []api.Slice{costs(1, maxDay+1, 365)}, maxDay+1, maxDay, api.OK)
	// The examples of the document: 182 days of a year that costs 4000, and 100 of one that costs 36500.
	checkUpto(t, "half a year", []api.Slice{costs(1, 366, 4000)}, 183, 1995, api.OK)
	checkUpto(t, "100 days", []api.Slice{costs(1, 101, 36500)}, 41, 4000, api.OK)
}

// The sum of all days is rounded, to the nearest cent, and no day for itself.
func TestP14_2Rounding(t *testing.T) {
	for yearly, want := range map[int]int{0: 0, 1: 0, 182: 0, 183: 1, 364: 1, 365: 1, 366: 1, 547: 1, 548: 2, 912: 2, 913: 3} {
		checkUpto(t, "a day", []api.Slice{costs(1, 2, yearly)}, 2, want, api.OK)
	}
	ones := []api.Slice{costs(1, 1001, 1)}
	for day := 1; day <= 1001; day++ {
		checkUpto(t, "a cent a year", ones, day, (day-1+182)/365, api.OK)
	}
	checkUpto(t, "of slices of a day together", []api.Slice{costs(1, 2, 182), costs(2, 3, 181), costs(3, 4, 182)}, 4, 1, api.OK)
	checkUpto(t, "of slices above a half together", []api.Slice{costs(1, 2, 183), costs(3, 4, 183)}, 5, 1, api.OK)
}

func TestP14_2Over(t *testing.T) {
	all := []api.Slice{costs(1, 2, maxSum)}
	checkUpto(t, "all that may be", all, 2, 10958904109589041, api.OK)
	checkUpto(t, "all that may be", all, maxDay+1, 10958904109589041, api.OK)
	half := []api.Slice{costs(1, 3, maxSum/2)}
	checkUpto(t, "two halves", half, 3, 10958904109589041, api.OK)
	full := []api.Slice{costs(10, 12, maxSum/2-1), costs(12, 13, 2), costs(20, 21, 1)}
	for day, code := range map[int]api.Errno{1: api.OK, 13: api.OK, 20: api.OK, 21: api.ErrOver, 22: api.ErrOver, maxDay + 1: api.ErrOver, math.MaxInt: api.ErrOver} {
		want, wantCode := earnedAhead(full, day)
		if wantCode != code {
			t.Fatalf("up to %d: code %d", day, wantCode)
		}
		checkUpto(t, "one more", full, day, want, code)
	}
	// Products that are greater than any int, and such that come out small, or at 0, if they go round.
	for _, l := range [][]api.Slice{
		{costs(1, maxDay+1, maxSum)}, {costs(1, 4, maxSum)}, {costs(1, 65537, 1<<60)}, {costs(1, 17, 1<<60)}, {costs(1, 9, 1<<61)}, {costs(1, 17, 1<<60+1)}, {costs(1, 2, maxSum), costs(2, 3, maxSum), costs(3, 4, maxSum), costs(4, 5, maxSum), costs(5, 6, maxSum)},
	} {
		checkUpto(t, "far above", l, maxDay+1, 0, api.ErrOver)
		checkUpto(t, "ahead of all", l, 1, 0, api.OK)
		checkUpto(t, "ahead of all", l, math.MinInt, 0, api.OK)
		want, code := earnedAhead(l, 2)
		checkUpto(t, "one day", l, 2, want, code)
	}
}

func TestP14_2OfAny(t *testing.T) {
	r := rand.New(rand.NewSource(142))
	over := 0
	for i := range 4000 {
		most := 1000
		if i%2 == 1 {
			most = maxSum / 3
		}
		l := anySlices(r, anyStart(r), most)
		for _, day := range edgeDays(l) {
			want, code := earnedAhead(l, day)
			if code == api.ErrOver {
				over++
			}
			checkUpto(t, "any", l, day, want, code)
		}
	}
	if over < 1000 {
		t.Errorf("only %d were above MaxSum", over)
	}
}

func TestP14_3Written(t *testing.T) {
	for name, x := range map[string]struct {
		l    []api.Slice
		want int
		code api.Errno
	}{
		"nothing":          {nil, 0, api.OK},
		"for nothing":      {[]api.Slice{costs(1, 9, 0)}, 0, api.OK},
		"a year":           {[]api.Slice{costs(1, 366, 365)}, 365, api.OK},
		"100 days":         {[]api.Slice{costs(1, 101, 36500)}, 10000, api.OK},
		"the last day too": {[]api.Slice{costs(maxDay-1, maxDay+1, 365)}, 2, api.OK},
		"the last day":     {[]api.Slice{costs(maxDay, maxDay+1, 365)}, 1, api.OK},
		"all that may be":  {[]api.Slice{costs(1, 2, maxSum)}, 10958904109589041, api.OK},
		"a cent too much":  {[]api.Slice{costs(1, 2, maxSum), costs(maxDay, maxDay+1, 1)}, 0, api.ErrOver},
		"too much":         {[]api.Slice{costs(1, maxDay+1, maxSum)}, 0, api.ErrOver},
	} {
		checkWritten(t, name, x.l, x.want, x.code)
	}
	r := rand.New(rand.NewSource(143))
	for i := range 2000 {
		l := anySlices(r, anyStart(r), []int{1000, maxSum / 3}[i%2])
		want, code := earnedAhead(l, maxDay+1)
		checkWritten(t, "any", l, want, code)
	}
}

func TestP14_3Between(t *testing.T) {
	l := []api.Slice{costs(1, 366, 365), {Span: of(366, 376)}, costs(380, 390, 1000)}
	for _, x := range []struct {
		s    api.Span
		want int
		code api.Errno
	}{
		{of(1, 1), 0, api.OK}, {of(1, 2), 1, api.OK}, {of(2, 2), 0, api.OK}, {of(1, 366), 365, api.OK}, {of(1, maxDay+1), 392, api.OK}, {of(5, 15), 10, api.OK},
		{of(366, 380), 0, api.OK}, {of(380, 381), 3, api.OK}, {of(381, 382), 2, api.OK}, {of(382, 383), 3, api.OK}, {of(380, 390), 27, api.OK}, {of(390, maxDay+1), 0, api.OK},
		{of(maxDay, maxDay+1), 0, api.OK}, {of(maxDay+1, maxDay+1), 0, api.OK},
		{api.Span{}, 0, api.ErrArg}, {of(0, 0), 0, api.ErrArg}, {of(0, 5), 0, api.ErrArg}, {of(-3, 5), 0, api.ErrArg}, {of(9, 5), 0, api.ErrArg}, {of(2, 1), 0, api.ErrArg}, {of(1, 0), 0, api.ErrArg},
		{of(1, maxDay+2), 0, api.ErrArg}, {of(maxDay+2, maxDay+2), 0, api.ErrArg}, {of(math.MinInt, 5), 0, api.ErrArg}, {of(5, math.MaxInt), 0, api.ErrArg}, {of(math.MinInt, math.MaxInt), 0, api.ErrArg}, {of(math.MaxInt, math.MinInt), 0, api.ErrArg},
	} {
		checkBetween(t, "table", l, x.s, x.want, x.code)
	}
	checkBetween(t, "the last day", []api.Slice{costs(maxDay, maxDay+1, 365)}, of(maxDay, maxDay+1), 1, api.OK)
	checkBetween(t, "nothing", nil, of(1, maxDay+1), 0, api.OK)
	checkBetween(t, "nothing, a wrong span", nil, of(0, 5), 0, api.ErrArg)
}

func TestP14_3BetweenOver(t *testing.T) {
	l := []api.Slice{costs(5, 6, 365), costs(10, 12, maxSum)}
	for _, x := range []struct {
		s    api.Span
		want int
		code api.Errno
	}{
		{of(1, 5), 0, api.OK}, {of(1, 10), 1, api.OK}, {of(10, 10), 0, api.OK}, {of(1, 11), 0, api.ErrOver}, {of(10, 11), 0, api.ErrOver}, {of(1, 12), 0, api.ErrOver},
		// Its days cost nothing, or it has none: the error is that of its To.
		{of(12, 20), 0, api.ErrOver}, {of(11, 11), 0, api.ErrOver}, {of(20, 20), 0, api.ErrOver}, {of(maxDay+1, maxDay+1), 0, api.ErrOver},
		// A span that isn't right is told ahead of what is too much.
		{of(0, 20), 0, api.ErrArg}, {of(20, 11), 0, api.ErrArg}, {of(1, maxDay+2), 0, api.ErrArg},
	} {
		checkBetween(t, "over", l, x.s, x.want, x.code)
	}
}

func TestP14_3OfAny(t *testing.T) {
	r := rand.New(rand.NewSource(1433))
	for i := range 3000 {
		l := anySlices(r, anyStart(r), []int{1000, maxSum / 3}[i%2])
		days := edgeDays(l)
		for range 20 {
			s := of(days[r.Intn(len(days))], days[r.Intn(len(days))])
			if !span.Right(s) {
				checkBetween(t, "a wrong span", l, s, 0, api.ErrArg)
				continue
			}
			to, code := earnedAhead(l, s.To)
			from, _ := earnedAhead(l, s.From)
			if code != api.OK {
				from = 0
			}
			checkBetween(t, "any", l, s, to-from, code)
		}
	}
}

func TestP14_4EarnedNeverFalls(t *testing.T) {
	r := rand.New(rand.NewSource(144))
	for range 500 {
		l := anySlices(r, anyStart(r), 1000)
		days := edgeDays(l)
		list.Sort(days)
		last := 0
		for _, day := range days {
			n := upto(t, l, day)
			if n < last {
				t.Errorf("Upto %d of %v: %d, behind %d", day, l, n, last)
			}
			last = n
		}
		if last != written(t, l) {
			t.Errorf("Upto the end of %v: %d; Written %d", l, last, written(t, l))
		}
	}
}

func TestP14_4DaysCutAnyhow(t *testing.T) {
	r := rand.New(rand.NewSource(1441))
	for range 2000 {
		l := anySlices(r, anyStart(r), 100000)
		all := written(t, l)
		var at []int
		for range r.Intn(12) {
			at = append(at, 1+r.Intn(maxDay))
			if len(l) > 0 {
				s := l[r.Intn(len(l))].Span
				at = append(at, s.From+r.Intn(s.To-s.From))
			}
		}
		sum := 0
		for _, s := range span.Parts(of(1, maxDay+1), at) {
			sum += between(t, l, s.From, s.To)
		}
		if sum != all {
			t.Errorf("%v, cut at %v: %d; Written %d", l, at, sum, all)
		}
		for _, day := range append(at, 1, maxDay+1) {
			if n, rest := upto(t, l, day), between(t, l, day, maxDay+1); n+rest != all {
				t.Errorf("%v on %d: %d earned, %d not; Written %d", l, day, n, rest, all)
			}
		}
	}
}

func TestP14_4EachDayWithinACent(t *testing.T) {
	for _, yearly := range []int{0, 1, 181, 182, 183, 364, 365, 366, 4000, 12345, 36500, 999999, api.MaxMoney} {
		l := []api.Slice{costs(7, 507, yearly)}
		sum := 0
		for day := 7; day < 507; day++ {
			n := between(t, l, day, day+1)
			sum += n
			if off := new(big.Int).Sub(big.NewInt(int64(365*n)), big.NewInt(int64(yearly))); off.CmpAbs(big.NewInt(365)) > 0 {
				t.Errorf("%d a year: %d on %d", yearly, n, day)
			}
		}
		if sum != written(t, l) {
			t.Errorf("%d a year: %d day by day; Written %d", yearly, sum, written(t, l))
		}
	}
}

// Slices of layer 12: of a policy of 100 days that is cancelled, and revived.
func TestP14_4OfAPolicy(t *testing.T) {
	perils := []int{10000, 10000, 10000, 10000, 10000, 10000, 10000, 10000}
	tar := api.Tariff{Versions: []api.Version{{From: 1, Base: [4]int{365, 730, 0, 0}, Zone: []int{10000}, Peril: perils}}}
	covers := []api.Cover{{Peril: 1, Limit: 100000, Agg: 100000, Share: 10000}}
	terms := api.Terms{Span: of(10, 110), Risk: api.Risk{Value: 1000000}, Covers: covers}
	h, code := change.Bind(1, 5, terms)
	if code != api.OK {
		t.Fatalf("Bind: code %d", code)
	}
	for _, x := range []struct {
		c       api.Change
		written int
		curve   api.Step
	}{
		{api.Change{}, 10000, stepOf([]int{10, 110}, []int{36500, 0})},
		{api.Change{Booked: 20, Day: 50, Kind: api.HCancel}, 4000, stepOf([]int{10, 50}, []int{36500, 0})},
		{api.Change{Booked: 30, Day: 70, Kind: api.HRevive}, 8000, stepOf([]int{10, 50, 70, 110}, []int{36500, 0, 36500, 0})},
		{api.Change{Booked: 40, Day: 90, Kind: api.HRisk, Risk: api.Risk{Kind: api.RMotor, Value: 1000000}}, 10000, stepOf([]int{10, 50, 70, 90, 110}, []int{36500, 0, 36500, 73000, 0})},
	} {
		if x.c.Kind != 0 {
			if h, code = change.Put(h, x.c); code != api.OK {
				t.Fatalf("Put of %v: code %d", x.c, code)
			}
		}
		l, code := slices.Of(h, tar)
		if code != api.OK {
			t.Fatalf("Of %v: code %d", h, code)
		}
		checkCurve(t, "a policy", l, x.curve)
		checkWritten(t, "a policy", l, x.written, api.OK)
		checkBetween(t, "a policy", l, terms.Span, x.written, api.OK)
		checkUpto(t, "a policy", l, 50, 4000, api.OK)
	}
}
