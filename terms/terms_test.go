package terms_test

import (
	"math"
	"math/rand"
	"slices"
	"testing"

	"bordereau/api"
	"bordereau/terms"
)

const (
	maxDay   = 292194
	maxMoney = 1000000000000000
)

// of is a cover of a peril that may be, if its peril may.
func of(peril int) api.Cover {
	return api.Cover{Peril: peril, Limit: 1000, Agg: 1500, Ded: 100, Share: 8000}
}

func covers(perils ...int) []api.Cover {
	var l []api.Cover
	for _, p := range perils {
		l = append(l, of(p))
	}
	return l
}

// made is terms that may be.
func made() api.Terms {
	return api.Terms{Span: api.Span{From: 100, To: 465}, Risk: api.Risk{Kind: api.RMotor, Value: 2500000, Age: 30, Zone: 4}, Covers: covers(1, 3)}
}

// wrongCovers are covers that aren't right, each by one number alone.
func wrongCovers() []api.Cover {
	return []api.Cover{
		{},
		{Peril: -1, Limit: 1000, Agg: 1500, Ded: 100, Share: 8000},
		{Peril: 8, Limit: 1000, Agg: 1500, Ded: 100, Share: 8000},
		{Peril: 1<<32 + 1, Limit: 1000, Agg: 1500, Ded: 100, Share: 8000},
		{Peril: 1, Limit: 1000, Agg: 1500, Ded: 100, Share: 0},
		{Peril: 1, Limit: 1000, Agg: 1500, Ded: 100, Share: 10001},
		{Peril: 1, Limit: 1000, Agg: 1500, Ded: -1, Share: 8000},
		{Peril: 1, Limit: 1000, Agg: 1500, Ded: 1000, Share: 8000},
		{Peril: 1, Limit: 1501, Agg: 1500, Ded: 100, Share: 8000},
		{Peril: 1, Limit: 1000, Agg: maxMoney + 1, Ded: 100, Share: 8000},
		{Peril: math.MinInt, Limit: math.MinInt, Agg: math.MinInt, Ded: math.MinInt, Share: math.MinInt},
		{Peril: math.MaxInt, Limit: math.MaxInt, Agg: math.MaxInt, Ded: math.MaxInt, Share: math.MaxInt},
	}
}

func TestP10_1Covers(t *testing.T) {
	for _, x := range []struct {
		name string
		l    []api.Cover
		want bool
	}{
		{"nil", nil, false},
		{"none", []api.Cover{}, false},
		{"the zero cover", []api.Cover{{}}, false},
		{"the least peril", covers(0), true},
		{"the greatest peril", covers(7), true},
		{"below the least peril", covers(-1), false},
		{"above the greatest peril", covers(8), false},
		{"the example's", covers(1, 3), true},
		{"the wrong way round", covers(3, 1), false},
		{"twice", covers(3, 3), false},
		{"twice at the beginning", covers(1, 1, 2), false},
		{"twice at the end", covers(1, 2, 2), false},
		{"twice, others between", covers(1, 2, 1), false},
		{"neighbours", covers(0, 1), true},
		{"far apart", covers(0, 7), true},
		{"seven", covers(0, 1, 2, 3, 5, 6, 7), true},
		{"eight", covers(0, 1, 2, 3, 4, 5, 6, 7), true},
		{"eight that fall", covers(7, 6, 5, 4, 3, 2, 1, 0), false},
		{"eight, the last one below", covers(1, 2, 3, 4, 5, 6, 7, 0), false},
		{"eight alike", covers(2, 2, 2, 2, 2, 2, 2, 2), false},
		{"nine that rise", covers(0, 1, 2, 3, 4, 5, 6, 7, 8), false},
		{"nine, one twice", covers(0, 1, 2, 3, 4, 5, 6, 7, 7), false},
		{"many", covers(make([]int, 5000)...), false},
	} {
		if got := terms.Covers(x.l); got != x.want {
			t.Errorf("%s: %v; want %v", x.name, got, x.want)
		}
	}
}

// Alike is asked of perils alone: covers of one peril that differ in all else are too many.
func TestP10_1PerilsAloneRise(t *testing.T) {
	a := api.Cover{Peril: 2, Limit: 1, Agg: 1, Share: 1}
	b := api.Cover{Peril: 2, Limit: maxMoney, Agg: maxMoney, Ded: 5, Share: 10000}
	if terms.Covers([]api.Cover{a, b}) || terms.Covers([]api.Cover{b, a}) {
		t.Error("two covers of one peril")
	}
	a.Peril, b.Peril = 3, 2
	if terms.Covers([]api.Cover{a, b}) || !terms.Covers([]api.Cover{b, a}) {
		t.Error("not by perils")
	}
}

func TestP10_1EachCoverIsRight(t *testing.T) {
	for i, wrong := range wrongCovers() {
		for place := range 3 {
			l := covers(0, 4, 6)
			peril := l[place].Peril
			l[place] = wrong
			if wrong.Peril == 1 || wrong.Peril == 0 {
				l[place].Peril = peril
			}
			if terms.Covers(l) {
				t.Errorf("wrong cover %d at place %d: true", i, place)
			}
		}
		if terms.Covers([]api.Cover{wrong}) {
			t.Errorf("wrong cover %d alone: true", i)
		}
	}
}

// rightCover tells by the words of P8.1 whether a cover may be.
func rightCover(c api.Cover) bool {
	return c.Peril >= 0 && c.Peril <= 7 && c.Share >= 1 && c.Share <= 10000 && 0 <= c.Ded && c.Ded < c.Limit && c.Limit <= c.Agg && c.Agg <= maxMoney
}

// rightCovers tells by the words of P10.1, one by one, whether covers may be.
func rightCovers(l []api.Cover) bool {
	if len(l) < 1 || len(l) > 8 {
		return false
	}
	for i := range l {
		for j := range i {
			if l[j].Peril >= l[i].Peril {
				return false
			}
		}
		if !rightCover(l[i]) {
			return false
		}
	}
	return true
}

// anyCovers are covers most of which are right, in an order that mostly rises.
func anyCovers(r *rand.Rand) []api.Cover {
	var l []api.Cover
	peril := -1
	for range r.Intn(10) {
		peril += 1 + r.Intn(2)
		switch r.Intn(30) {
		case 0:
			peril--
		case 1:
			peril = r.Intn(8)
		}
		c := of(peril)
		if r.Intn(30) == 0 {
			c = wrongCovers()[r.Intn(len(wrongCovers()))]
		}
		l = append(l, c)
	}
	return l
}

func TestP10_1AnyCovers(t *testing.T) {
	r := rand.New(rand.NewSource(101))
	var seen [2]int
	for range 20000 {
		l := anyCovers(r)
		got, want := terms.Covers(l), rightCovers(l)
		if got != want {
			t.Fatalf("Covers(%v): %v; want %v", l, got, want)
		}
		if want {
			seen[1]++
		} else {
			seen[0]++
		}
	}
	if seen[0] < 1000 || seen[1] < 1000 {
		t.Error("too few of a kind were tried:", seen)
	}
}

func TestP10_2Span(t *testing.T) {
	for _, x := range []struct {
		from, to int
		want     bool
	}{
		{1, 2, true}, {1, 3, true}, {1, 366, true}, {100, 465, true},
		// From 1 to 1100 days.
		{1, 1, false}, {500, 500, false}, {maxDay + 1, maxDay + 1, false}, {500, 501, true},
		{1, 1100, true}, {1, 1101, true}, {1, 1102, false}, {500, 1599, true}, {500, 1600, true}, {500, 1601, false}, {1, maxDay, false}, {1, maxDay + 1, false},
		// Days that are, the right way round.
		{0, 1, false}, {0, 100, false}, {-1, 100, false}, {0, 0, false}, {2, 1, false}, {465, 100, false},
		{maxDay, maxDay + 1, true}, {maxDay, maxDay + 2, false}, {maxDay - 1099, maxDay + 1, true}, {maxDay - 1100, maxDay + 1, false}, {maxDay - 1099, maxDay + 2, false}, {maxDay + 1, maxDay + 2, false},
		{math.MinInt, math.MaxInt, false}, {math.MaxInt, math.MinInt, false}, {math.MinInt, math.MinInt + 5, false}, {math.MaxInt - 5, math.MaxInt, false}, {math.MaxInt, math.MinInt + 5, false},
		{1, 1<<32 + 5, false}, {1<<32 + 1, 1<<32 + 5, false}, {-1 << 32, 5, false}, {math.MinInt + 1, 5, false}, {5, math.MaxInt, false},
	} {
		a := made()
		a.Span = api.Span{From: x.from, To: x.to}
		if got := terms.Right(a); got != x.want {
			t.Errorf("from %d to %d: %v; want %v", x.from, x.to, got, x.want)
		}
	}
}

func TestP10_2Risk(t *testing.T) {
	for _, x := range []struct {
		r    api.Risk
		want bool
	}{
		{api.Risk{}, false},
		{api.Risk{Value: 1}, true},
		{api.Risk{Kind: 3, Value: maxMoney, Age: 200, Zone: 99}, true},
		{api.Risk{Kind: 4, Value: maxMoney, Age: 200, Zone: 99}, false},
		{api.Risk{Kind: 3, Value: maxMoney + 1, Age: 200, Zone: 99}, false},
		{api.Risk{Kind: 3, Value: maxMoney, Age: 201, Zone: 99}, false},
		{api.Risk{Kind: 3, Value: maxMoney, Age: 200, Zone: 100}, false},
		{api.Risk{Kind: -1, Value: 1}, false},
		{api.Risk{Value: -1}, false},
		{api.Risk{Value: 1, Age: -1}, false},
		{api.Risk{Value: 1, Zone: -1}, false},
		{api.Risk{Kind: math.MinInt, Value: math.MaxInt, Age: math.MinInt, Zone: math.MaxInt}, false},
	} {
		a := made()
		a.Risk = x.r
		if got := terms.Right(a); got != x.want {
			t.Errorf("risk %v: %v; want %v", x.r, got, x.want)
		}
	}
}

func TestP10_2Covers(t *testing.T) {
	a := made()
	for _, l := range [][]api.Cover{nil, {}, {{}}, covers(3, 1), covers(3, 3), covers(8), covers(-1, 1), covers(0, 1, 2, 3, 4, 5, 6, 7, 8), {of(1), {Peril: 2}}} {
		a.Covers = l
		if terms.Right(a) {
			t.Errorf("covers %v: true", l)
		}
	}
	for _, l := range [][]api.Cover{covers(0), covers(7), covers(1, 3), covers(0, 1, 2, 3, 4, 5, 6, 7)} {
		a.Covers = l
		if !terms.Right(a) {
			t.Errorf("covers %v: false", l)
		}
	}
}

// Each of the three parts, right or not, beside the two others, right or not: all three must be.
func TestP10_2AllThreeTogether(t *testing.T) {
	good := made()
	wrong := api.Terms{Span: api.Span{From: 5, To: 5}, Risk: api.Risk{}, Covers: covers(3, 3)}
	for which := range 8 {
		a := good
		if which&1 != 0 {
			a.Span = wrong.Span
		}
		if which&2 != 0 {
			a.Risk = wrong.Risk
		}
		if which&4 != 0 {
			a.Covers = wrong.Covers
		}
		if got, want := terms.Right(a), which == 0; got != want {
			t.Errorf("%v: %v; want %v", a, got, want)
		}
	}
	if terms.Right(api.Terms{}) {
		t.Error("the zero terms")
	}
}

func TestP10_2AnyTerms(t *testing.T) {
	r := rand.New(rand.NewSource(102))
	var seen [2]int
	for range 20000 {
		from := r.Intn(maxDay+10) - 4
		if r.Intn(4) == 0 {
			from = r.Intn(6) - 2
		}
		days := r.Intn(1110) - 3
		a := api.Terms{Span: api.Span{From: from, To: from + days}, Risk: api.Risk{Kind: r.Intn(4), Value: r.Intn(40), Age: r.Intn(203), Zone: r.Intn(101)}, Covers: anyCovers(r)}
		rightSpan := from >= 1 && from+days <= maxDay+1 && days >= 1 && days <= 1100
		rightRisk := a.Risk.Value >= 1 && a.Risk.Age <= 200 && a.Risk.Zone <= 99
		want := rightSpan && rightRisk && rightCovers(a.Covers)
		if got := terms.Right(a); got != want {
			t.Fatalf("Right(%v): %v; want %v", a, got, want)
		}
		if want {
			seen[1]++
		} else {
			seen[0]++
		}
	}
	if seen[0] < 1000 || seen[1] < 1000 {
		t.Error("too few of a kind were tried:", seen)
	}
}

func TestP10_3Find(t *testing.T) {
	two := covers(1, 3)
	all := covers(0, 1, 2, 3, 4, 5, 6, 7)
	for _, x := range []struct {
		name  string
		l     []api.Cover
		peril int
		place int // -1: none
	}{
		{"the example's second", two, 3, 1},
		{"the example's none", two, 2, -1},
		{"the first", two, 1, 0},
		{"below all", two, 0, -1},
		{"above all", two, 4, -1},
		{"of nil", nil, 0, -1},
		{"of none", []api.Cover{}, 0, -1},
		{"the first of eight", all, 0, 0},
		{"the last of eight", all, 7, 7},
		{"below 0", all, -1, -1},
		{"above 7", all, 8, -1},
		{"the least number", all, math.MinInt, -1},
		{"the greatest number", all, math.MaxInt, -1},
		{"one that is 1 in 32 bits", all, 1<<32 + 1, -1},
		{"one that is 1 in 8 bits", all, 257, -1},
	} {
		want := api.Cover{}
		if x.place >= 0 {
			want = x.l[x.place]
		}
		if got, ok := terms.Find(x.l, x.peril); got != want || ok != (x.place >= 0) {
			t.Errorf("%s: %v %v; want %v", x.name, got, ok, want)
		}
	}
}

// Find is of any list: its covers need not be right, nor rise, nor differ.
func TestP10_3FindInAnyList(t *testing.T) {
	l := []api.Cover{{Peril: 5, Ded: 1}, {Peril: 2, Ded: 2}, {Peril: 5, Ded: 3}, {Peril: -4, Ded: 4}, {Peril: 2, Ded: 5}, {Ded: 6}, {Peril: 1000, Ded: 7}, {Ded: 8}, {Peril: math.MaxInt, Ded: 9}, {Peril: math.MinInt, Ded: 10}, {Peril: 1, Ded: 11}}
	for peril, ded := range map[int]int{5: 1, 2: 2, -4: 4, 0: 6, 1000: 7, math.MaxInt: 9, math.MinInt: 10, 1: 11} {
		if got, ok := terms.Find(l, peril); !ok || got != (api.Cover{Peril: peril, Ded: ded}) {
			t.Errorf("Find of %d: %v %v; want the one with %d", peril, got, ok, ded)
		}
	}
	for _, peril := range []int{3, 4, 6, 7, -1, -5, 999, 1001, math.MaxInt - 1, math.MinInt + 1} {
		if got, ok := terms.Find(l, peril); ok || got != (api.Cover{}) {
			t.Errorf("Find of %d: %v %v; want none", peril, got, ok)
		}
	}
	// The zero cover is found, if it is there.
	if got, ok := terms.Find([]api.Cover{of(1), {}}, 0); !ok || got != (api.Cover{}) {
		t.Error("the zero cover:", got, ok)
	}
	// The whole cover is answered, not its peril alone.
	wide := api.Cover{Peril: 6, Limit: -1, Agg: math.MinInt, Ded: math.MaxInt, Share: 77}
	if got, ok := terms.Find([]api.Cover{of(5), wide, of(6)}, 6); !ok || got != wide {
		t.Error("the whole cover:", got, ok)
	}
	// A list longer than covers may be is gone through to its end.
	long := make([]api.Cover, 3000)
	long[2999] = of(3)
	if got, ok := terms.Find(long, 3); !ok || got != of(3) {
		t.Error("the last of many:", got, ok)
	}
}

func TestP10_4OfRightCoversEachIsFound(t *testing.T) {
	// Each set of perils, as bits.
	for set := 1; set < 256; set++ {
		var l []api.Cover
		for peril := range 8 {
			if set>>peril&1 == 1 {
				l = append(l, api.Cover{Peril: peril, Limit: 10 + set, Agg: 500 + peril, Ded: peril, Share: 1 + set})
			}
		}
		if !terms.Covers(l) {
			t.Fatal("covers aren't right:", l)
		}
		found := 0
		for peril := -5; peril < 20; peril++ {
			c, ok := terms.Find(l, peril)
			if ok != slices.Contains(l, c) || ok && c.Peril != peril || !ok && c != (api.Cover{}) {
				t.Errorf("Find(%v, %d): %v %v", l, peril, c, ok)
			}
			if ok {
				found++
			}
		}
		if found != len(l) {
			t.Errorf("%d of %v are found", found, l)
		}
	}
}

func TestP10NothingIsWrittenInto(t *testing.T) {
	for _, l := range [][]api.Cover{covers(1, 3), covers(3, 1), covers(7, 0, 7, 9)} {
		a := made()
		a.Covers = slices.Clone(l)
		terms.Right(a)
		terms.Covers(a.Covers)
		terms.Find(a.Covers, 7)
		if !slices.Equal(a.Covers, l) {
			t.Errorf("%v became %v", l, a.Covers)
		}
	}
}
