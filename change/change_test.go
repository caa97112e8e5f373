package change_test

import (
	"math"
	"math/rand"
	"slices"
	"testing"

	"bordereau/api"
	"bordereau/change"
)

const (
	maxDay   = 292194
	maxId    = 1000000000
	maxMoney = 1000000000000000
	maxRows  = 2000
)

// covers are covers that may be, if the perils may.
func covers(perils ...int) []api.Cover {
	var l []api.Cover
	for _, p := range perils {
		l = append(l, api.Cover{Peril: p, Limit: 1000, Agg: 1500, Ded: 100, Share: 8000})
	}
	return l
}

// motor is a risk that may be, and none of whose numbers is zero.
func motor() api.Risk {
	return api.Risk{Kind: api.RMotor, Value: 2500000, Age: 30, Zone: 4}
}

// made is terms that may be, of the days 100 to 464.
func made() api.Terms {
	return api.Terms{Span: api.Span{From: 100, To: 465}, Risk: motor(), Covers: covers(1, 3)}
}

// of is a change that may be, of a kind, if its days may.
func of(kind, booked, day int) api.Change {
	c := api.Change{Booked: booked, Day: day, Kind: kind}
	switch kind {
	case api.HRisk:
		c.Risk = motor()
	case api.HCovers:
		c.Covers = covers(0, 2)
	case api.HCancel:
		c.Way = api.GShort
	}
	return c
}

// allKinds are the kinds that there are, by their numbers.
func allKinds() []int {
	return []int{1, 2, 3, 4}
}

// revive is the plainest change that may be.
func revive(booked, day int) api.Change {
	return of(api.HRevive, booked, day)
}

// holding is a history of made's terms, booked on a day, with these changes, right or not.
func holding(booked int, l ...api.Change) api.History {
	return api.History{Id: 7, Booked: booked, Terms: made(), Changes: l}
}

func sameTerms(a, b api.Terms) bool {
	return a.Span == b.Span && a.Risk == b.Risk && slices.Equal(a.Covers, b.Covers)
}

func sameChange(a, b api.Change) bool {
	return a.Booked == b.Booked && a.Day == b.Day && a.Kind == b.Kind && a.Risk == b.Risk && slices.Equal(a.Covers, b.Covers) && a.Way == b.Way
}

func same(a, b api.History) bool {
	return a.Id == b.Id && a.Booked == b.Booked && sameTerms(a.Terms, b.Terms) && slices.EqualFunc(a.Changes, b.Changes, sameChange)
}

func clone(h api.History) api.History {
	h.Terms.Covers = slices.Clone(h.Terms.Covers)
	h.Changes = slices.Clone(h.Changes)
	for i, c := range h.Changes {
		h.Changes[i].Covers = slices.Clone(c.Covers)
	}
	return h
}

// put puts a change that must find its place.
func put(t *testing.T, h api.History, c api.Change) api.History {
	t.Helper()
	next, code := change.Put(h, c)
	if code != api.OK {
		t.Fatalf("Put of %v: code %d", c, code)
	}
	return next
}

// checkPut holds what Put answers against a code: the zero history, or h with c behind the others.
func checkPut(t *testing.T, name string, h api.History, c api.Change, want api.Errno) {
	t.Helper()
	got, code := change.Put(h, c)
	if code != want {
		t.Errorf("%s: code %d; want %d", name, code, want)
	}
	made := api.History{}
	if want == api.OK {
		made = clone(h)
		made.Changes = append(made.Changes, c)
	}
	if !same(got, made) {
		t.Errorf("%s: %v; want %v", name, got, made)
	}
}

// wrongDays are numbers that no day has.
func wrongDays() []int {
	return []int{0, -1, maxDay + 1, maxDay + 2, 1<<32 + 5, -1<<32 + 5, math.MinInt, math.MaxInt, math.MinInt + 5}
}

func TestP11_1Days(t *testing.T) {
	for _, kind := range allKinds() {
		for _, day := range []int{1, 2, 150000, maxDay - 1, maxDay} {
			// The two days don't hang on one another: a change may be booked ahead of its day, on it, and behind it.
			for _, other := range []int{1, 150000, maxDay} {
				if !change.Right(of(kind, day, other)) || !change.Right(of(kind, other, day)) {
					t.Errorf("kind %d, days %d and %d: false", kind, day, other)
				}
			}
		}
		for _, day := range wrongDays() {
			for _, other := range []int{1, maxDay, day} {
				if change.Right(of(kind, day, other)) || change.Right(of(kind, other, day)) {
					t.Errorf("kind %d, days %d and %d: true", kind, day, other)
				}
			}
		}
	}
}

func TestP11_1Kinds(t *testing.T) {
	for _, kind := range allKinds() {
		if !change.Right(of(kind, 5, 5)) {
			t.Errorf("kind %d: false", kind)
		}
	}
	for _, kind := range []int{0, -1, 5, 6, 100, 1<<32 + 1, 1<<32 + 4, 256 + 4, -4, math.MinInt, math.MaxInt} {
		for _, like := range allKinds() {
			c := of(like, 5, 5)
			c.Kind = kind
			if change.Right(c) {
				t.Errorf("kind %d, all else as of kind %d: true", kind, like)
			}
		}
	}
	if change.Right(api.Change{}) {
		t.Error("the zero change: true")
	}
}

func TestP11_1WhatEachKindHas(t *testing.T) {
	for _, x := range []struct {
		name string
		c    api.Change
		want bool
	}{
		{"a risk", api.Change{Kind: api.HRisk, Risk: motor()}, true},
		{"the least risk", api.Change{Kind: api.HRisk, Risk: api.Risk{Value: 1}}, true},
		{"the greatest risk", api.Change{Kind: api.HRisk, Risk: api.Risk{Kind: 3, Value: maxMoney, Age: 200, Zone: 99}}, true},
		{"no risk", api.Change{Kind: api.HRisk}, false},
		{"a risk of no value", api.Change{Kind: api.HRisk, Risk: api.Risk{Kind: 1, Age: 30, Zone: 4}}, false},
		{"a risk of no kind", api.Change{Kind: api.HRisk, Risk: api.Risk{Kind: 4, Value: 1}}, false},
		{"a risk too old", api.Change{Kind: api.HRisk, Risk: api.Risk{Value: 1, Age: 201}}, false},
		{"a risk too far", api.Change{Kind: api.HRisk, Risk: api.Risk{Value: 1, Zone: 100}}, false},
		{"a risk too dear", api.Change{Kind: api.HRisk, Risk: api.Risk{Value: maxMoney + 1}}, false},

		{"covers", api.Change{Kind: api.HCovers, Covers: covers(1, 3)}, true},
		{"a cover", api.Change{Kind: api.HCovers, Covers: covers(0)}, true},
		{"all covers", api.Change{Kind: api.HCovers, Covers: covers(0, 1, 2, 3, 4, 5, 6, 7)}, true},
		{"nil covers", api.Change{Kind: api.HCovers}, false},
		{"no covers", api.Change{Kind: api.HCovers, Covers: []api.Cover{}}, false},
		{"covers twice", api.Change{Kind: api.HCovers, Covers: covers(1, 1)}, false},
		{"covers that fall", api.Change{Kind: api.HCovers, Covers: covers(3, 1)}, false},
		{"a cover of no peril", api.Change{Kind: api.HCovers, Covers: covers(1, 8)}, false},
		{"nine covers", api.Change{Kind: api.HCovers, Covers: covers(0, 1, 2, 3, 4, 5, 6, 7, 8)}, false},
		{"a zero cover", api.Change{Kind: api.HCovers, Covers: []api.Cover{{}}}, false},

		{"by days", api.Change{Kind: api.HCancel, Way: 0}, true},
		{"short", api.Change{Kind: api.HCancel, Way: 1}, true},
		{"another way", api.Change{Kind: api.HCancel, Way: 2}, false},
		{"a way below 0", api.Change{Kind: api.HCancel, Way: -1}, false},
		{"a way that is 1 in 32 bits", api.Change{Kind: api.HCancel, Way: 1<<32 + 1}, false},
		{"a way that is 0 in 32 bits", api.Change{Kind: api.HCancel, Way: 1 << 32}, false},
		{"the greatest way", api.Change{Kind: api.HCancel, Way: math.MaxInt}, false},
		{"the least way", api.Change{Kind: api.HCancel, Way: math.MinInt}, false},

		{"nothing", api.Change{Kind: api.HRevive}, true},
	} {
		x.c.Booked, x.c.Day = 5, 9
		if got := change.Right(x.c); got != x.want {
			t.Errorf("%s: %v; want %v", x.name, got, x.want)
		}
	}
}

// strange are things that some kind hasn't, by that part's name; right or not, they aren't zero.
func strange() map[string][]func(c *api.Change) {
	return map[string][]func(c *api.Change){
		"risk": {
			func(c *api.Change) { c.Risk = motor() },
			func(c *api.Change) { c.Risk = api.Risk{Kind: 1} },
			func(c *api.Change) { c.Risk = api.Risk{Value: 1} },
			func(c *api.Change) { c.Risk = api.Risk{Age: 1} },
			func(c *api.Change) { c.Risk = api.Risk{Zone: 1} },
			func(c *api.Change) { c.Risk = api.Risk{Value: -1} },
			func(c *api.Change) { c.Risk = api.Risk{Zone: 1 << 32} },
		},
		"covers": {
			func(c *api.Change) { c.Covers = covers(1, 3) },
			func(c *api.Change) { c.Covers = covers(0) },
			func(c *api.Change) { c.Covers = covers(3, 1) },
			func(c *api.Change) { c.Covers = []api.Cover{{}} },
		},
		"way": {
			func(c *api.Change) { c.Way = 1 },
			func(c *api.Change) { c.Way = 2 },
			func(c *api.Change) { c.Way = -1 },
			func(c *api.Change) { c.Way = 1 << 32 },
		},
	}
}

func TestP11_1AllElseIsZero(t *testing.T) {
	own := map[int]string{api.HRisk: "risk", api.HCovers: "covers", api.HCancel: "way", api.HRevive: "none"}
	for _, kind := range allKinds() {
		for part, turns := range strange() {
			for i, turn := range turns {
				c := of(kind, 5, 9)
				turn(&c)
				if part != own[kind] && change.Right(c) {
					t.Errorf("kind %d with another's %s (%d): true", kind, part, i)
				}
			}
		}
	}
	// A list without elements is zero, nil or not.
	for _, kind := range []int{api.HRisk, api.HCancel, api.HRevive} {
		c := of(kind, 5, 9)
		c.Covers = []api.Cover{}
		if !change.Right(c) {
			t.Errorf("kind %d with an empty list of covers: false", kind)
		}
	}
}

// right tells by the words of P11.1 whether a change may be; covers and risks come from lists of which is known whether they are right.
func right(c api.Change, riskRight, coversRight bool) bool {
	if c.Booked < 1 || c.Booked > maxDay || c.Day < 1 || c.Day > maxDay {
		return false
	}
	noRisk, noCovers := c.Risk == api.Risk{}, len(c.Covers) == 0
	switch c.Kind {
	case 1:
		return riskRight && noCovers && c.Way == 0
	case 2:
		return noRisk && coversRight && c.Way == 0
	case 3:
		return noRisk && noCovers && (c.Way == 0 || c.Way == 1)
	case 4:
		return noRisk && noCovers && c.Way == 0
	}
	return false
}

func TestP11_1AllPartsTogether(t *testing.T) {
	risks := []struct {
		r     api.Risk
		right bool
	}{{api.Risk{}, false}, {motor(), true}, {api.Risk{Value: 1}, true}, {api.Risk{Zone: 3}, false}}
	lists := []struct {
		l     []api.Cover
		right bool
	}{{nil, false}, {[]api.Cover{}, false}, {covers(1, 3), true}, {covers(3, 1), false}}
	for kind := -1; kind <= 6; kind++ {
		for _, r := range risks {
			for _, l := range lists {
				for way := -1; way <= 2; way++ {
					for _, booked := range []int{0, 1, maxDay, maxDay + 1} {
						for _, day := range []int{0, 1, maxDay, maxDay + 1} {
							c := api.Change{Booked: booked, Day: day, Kind: kind, Risk: r.r, Covers: l.l, Way: way}
							if got, want := change.Right(c), right(c, r.right, l.right); got != want {
								t.Fatalf("Right(%v): %v; want %v", c, got, want)
							}
						}
					}
				}
			}
		}
	}
}

func TestP11_2Bind(t *testing.T) {
	for _, id := range []int{1, 2, 7, maxId - 1, maxId} {
		for _, booked := range []int{1, 2, 99, 100, 464, 465, maxDay - 1, maxDay} {
			h, code := change.Bind(id, booked, made())
			if code != api.OK || !same(h, api.History{Id: id, Booked: booked, Terms: made()}) {
				t.Errorf("Bind(%d, %d): %v, code %d", id, booked, h, code)
			}
		}
	}
	least := api.Terms{Span: api.Span{From: maxDay, To: maxDay + 1}, Risk: api.Risk{Value: 1}, Covers: covers(0)}
	most := api.Terms{Span: api.Span{From: 1, To: 1101}, Risk: api.Risk{Kind: 3, Value: maxMoney, Age: 200, Zone: 99}, Covers: covers(0, 1, 2, 3, 4, 5, 6, 7)}
	for _, terms := range []api.Terms{least, most} {
		if h, code := change.Bind(9, 9, terms); code != api.OK || !same(h, api.History{Id: 9, Booked: 9, Terms: terms}) {
			t.Errorf("Bind of %v: %v, code %d", terms, h, code)
		}
	}
}

// wrongTerms are terms that may not be, each by one part alone.
func wrongTerms() []api.Terms {
	var l []api.Terms
	for _, s := range []api.Span{{}, {From: 100, To: 100}, {From: 465, To: 100}, {From: 0, To: 100}, {From: 100, To: 1201}, {From: maxDay, To: maxDay + 2}} {
		terms := made()
		terms.Span = s
		l = append(l, terms)
	}
	for _, r := range []api.Risk{{}, {Kind: 4, Value: 1}, {Value: -1}} {
		terms := made()
		terms.Risk = r
		l = append(l, terms)
	}
	for _, c := range [][]api.Cover{nil, {}, covers(3, 1), covers(8), {{Peril: 1}}} {
		terms := made()
		terms.Covers = c
		l = append(l, terms)
	}
	return append(l, api.Terms{})
}

func TestP11_2BindOfWhatMayNotBe(t *testing.T) {
	check := func(id, booked int, terms api.Terms) {
		t.Helper()
		h, code := change.Bind(id, booked, terms)
		if code != api.ErrArg || !same(h, api.History{}) {
			t.Errorf("Bind(%d, %d, %v): %v, code %d", id, booked, terms, h, code)
		}
	}
	for _, id := range []int{0, -1, maxId + 1, maxId + 2, 1<<32 + 1, -1<<32 + 1, math.MinInt, math.MaxInt} {
		check(id, 5, made())
		check(id, 0, api.Terms{})
	}
	for _, booked := range wrongDays() {
		check(7, booked, made())
	}
	for _, terms := range wrongTerms() {
		check(7, 5, terms)
	}
}

func TestP11_3PutBehindTheOthers(t *testing.T) {
	h, _ := change.Bind(7, 50, made())
	want := holding(50)
	// Each kind, of days that go any way, booked on days that never fall.
	for i, day := range []int{300, 100, 300, 464, 101, 200, 463, 100} {
		c := of(1+i%4, 50+i/2*70, day)
		h = put(t, h, c)
		want.Changes = append(want.Changes, c)
		if !same(h, want) {
			t.Fatalf("change %d: %v; want %v", i, h, want)
		}
		if !change.History(h) {
			t.Errorf("change %d: History: false", i)
		}
	}
}

func TestP11_3PutOfAChangeThatMayNotBe(t *testing.T) {
	h := holding(50, revive(60, 200))
	for _, kind := range allKinds() {
		for _, booked := range wrongDays() {
			checkPut(t, "a wrong day of booking", h, of(kind, booked, 200), api.ErrArg)
		}
		for _, day := range wrongDays() {
			checkPut(t, "a wrong day", h, of(kind, 60, day), api.ErrArg)
		}
	}
	noRisk, noCovers, noWay, more := of(1, 60, 200), of(2, 60, 200), of(3, 60, 200), of(4, 60, 200)
	noRisk.Risk, noCovers.Covers, noWay.Way, more.Way = api.Risk{}, nil, 2, 1
	for _, c := range []api.Change{noRisk, noCovers, noWay, more, {}, {Booked: 60, Day: 200}, {Booked: 60, Day: 200, Kind: 5}} {
		checkPut(t, "a wrong change", h, c, api.ErrArg)
	}
}

func TestP11_3PutOfADayOutsideOfTheTerms(t *testing.T) {
	for _, x := range []struct {
		span api.Span
		day  int
		want api.Errno
	}{
		{made().Span, 99, api.ErrArg}, {made().Span, 100, api.OK}, {made().Span, 101, api.OK}, {made().Span, 463, api.OK}, {made().Span, 464, api.OK}, {made().Span, 465, api.ErrArg}, {made().Span, 466, api.ErrArg}, {made().Span, 1, api.ErrArg}, {made().Span, maxDay, api.ErrArg},
		{api.Span{From: 1, To: 2}, 1, api.OK}, {api.Span{From: 1, To: 2}, 2, api.ErrArg}, {api.Span{From: maxDay, To: maxDay + 1}, maxDay, api.OK}, {api.Span{From: maxDay, To: maxDay + 1}, maxDay - 1, api.ErrArg},
		// Terms that may not be are asked for their span alone, and one that isn't right has no days.
		{api.Span{From: 1, To: maxDay + 1}, maxDay, api.OK}, {api.Span{From: 5, To: 5}, 5, api.ErrArg}, {api.Span{}, 1, api.ErrArg}, {api.Span{From: 0, To: 10}, 5, api.ErrArg}, {api.Span{From: 1, To: maxDay + 2}, 5, api.ErrArg}, {api.Span{From: 9, To: 3}, 5, api.ErrArg},
	} {
		h := holding(50)
		h.Terms.Span = x.span
		checkPut(t, "terms of another span", h, revive(50, x.day), x.want)
	}
}

func TestP11_3PutByTheOrderOfBooking(t *testing.T) {
	for _, x := range []struct {
		name   string
		h      api.History
		booked int
		want   api.Errno
	}{
		{"ahead of the history's own", holding(50), 49, api.ErrOrder},
		{"far ahead of the history's own", holding(50), 1, api.ErrOrder},
		{"on the history's own", holding(50), 50, api.OK},
		{"behind the history's own", holding(50), 51, api.OK},
		{"the last day there is", holding(50), maxDay, api.OK},
		{"ahead of the change", holding(50, revive(60, 200)), 59, api.ErrOrder},
		{"on the history's own, ahead of the change", holding(50, revive(60, 200)), 50, api.ErrOrder},
		{"on the change", holding(50, revive(60, 200)), 60, api.OK},
		{"behind the change", holding(50, revive(60, 200)), 61, api.OK},
		{"ahead of the last change, on the first one", holding(50, revive(60, 200), revive(70, 150)), 60, api.ErrOrder},
		{"a day ahead of the last change", holding(50, revive(60, 200), revive(70, 150)), 69, api.ErrOrder},
		{"on the last change", holding(50, revive(60, 200), revive(70, 150)), 70, api.OK},
		// Ahead of the change's day, on it and behind it: the order of booking is no matter of days.
		{"behind its day", holding(50), 300, api.OK},
		{"behind the terms' last day", holding(50), 5000, api.OK},
		// Of a history that may not be the last change alone is asked.
		{"a last change ahead of the history's own", holding(50, revive(40, 200)), 45, api.OK},
		{"ahead of a change that isn't the last", holding(50, revive(90, 200), revive(70, 200)), 70, api.OK},
		{"ahead of the last change, behind others", holding(50, revive(60, 200), revive(90, 200), revive(80, 200)), 79, api.ErrOrder},
		{"changes that aren't right", holding(50, api.Change{Booked: -5}), 1, api.OK},
		{"a last change booked on no day", holding(50, api.Change{Booked: math.MaxInt}), maxDay, api.ErrOrder},
		{"a history booked on no day", holding(math.MinInt), 1, api.OK},
		{"a history booked behind all days", holding(math.MaxInt), maxDay, api.ErrOrder},
	} {
		checkPut(t, x.name, x.h, revive(x.booked, 200), x.want)
		for _, kind := range allKinds() {
			checkPut(t, x.name, x.h, of(kind, x.booked, 200), x.want)
		}
	}
}

// full is a history of n changes.
func full(n int) api.History {
	h := holding(50)
	for i := range n {
		h.Changes = append(h.Changes, revive(60, 100+i%365))
	}
	return h
}

func TestP11_3PutToAHistoryThatIsFull(t *testing.T) {
	checkPut(t, "one less", full(maxRows-1), revive(60, 200), api.OK)
	checkPut(t, "full", full(maxRows), revive(60, 200), api.ErrBound)
	checkPut(t, "more than full", full(maxRows+1), revive(60, 200), api.ErrBound)
	checkPut(t, "much more than full", full(3*maxRows), revive(60, 200), api.ErrBound)
	h := put(t, full(maxRows-1), of(api.HCovers, 61, 464))
	checkPut(t, "full by Put", h, of(api.HCovers, 61, 464), api.ErrBound)
}

func TestP11_3TheOrderOfCodes(t *testing.T) {
	wrong := revive(60, 200)
	wrong.Way = 1
	early := wrong
	early.Booked = 59
	for _, x := range []struct {
		name string
		h    api.History
		c    api.Change
		want api.Errno
	}{
		{"wrong, early, full", full(maxRows), early, api.ErrArg},
		{"wrong, early", full(3), early, api.ErrArg},
		{"wrong, full", full(maxRows), wrong, api.ErrArg},
		{"outside, early, full", full(maxRows), revive(59, 465), api.ErrArg},
		{"outside, early", full(3), revive(59, 99), api.ErrArg},
		{"outside, full", full(maxRows), revive(60, 465), api.ErrArg},
		{"early, full", full(maxRows), revive(59, 200), api.ErrOrder},
		{"early", full(3), revive(59, 200), api.ErrOrder},
		{"full", full(maxRows), revive(60, 200), api.ErrBound},
	} {
		checkPut(t, x.name, x.h, x.c, x.want)
	}
}

func TestP11_3PutKeepsWhatIsThere(t *testing.T) {
	// Nothing of a history that may not be is mended.
	h := api.History{Id: -3, Booked: -9, Terms: api.Terms{Span: api.Span{From: 1, To: 5000}, Risk: api.Risk{Age: 777}, Covers: covers(9, 4)}, Changes: []api.Change{{Booked: 4, Way: 9, Kind: 77, Covers: covers(5)}, {Booked: 2, Day: -1, Risk: motor()}}}
	for _, kind := range allKinds() {
		checkPut(t, "a history that may not be", h, of(kind, 2, 4999), api.OK)
	}
}

func TestP11_3History(t *testing.T) {
	for _, x := range []struct {
		name string
		h    api.History
		want bool
	}{
		{"the zero history", api.History{}, false},
		{"without changes", holding(50), true},
		{"an empty list of changes", holding(50, []api.Change{}...), true},
		{"one", holding(50, revive(50, 100)), true},
		{"booked ahead of the history", holding(50, revive(49, 100)), false},
		{"the second ahead of the first", holding(50, revive(60, 100), revive(59, 100)), false},
		{"the second on the first", holding(50, revive(60, 100), revive(60, 100)), true},
		{"the first ahead of the history, the second not", holding(50, revive(49, 100), revive(60, 100)), false},
		{"the last of three ahead", holding(50, revive(60, 100), revive(61, 100), revive(60, 100)), false},
		{"the middle of three behind the last", holding(50, revive(60, 100), revive(70, 100), revive(65, 100)), false},
		{"days that fall", holding(50, revive(60, 464), revive(61, 300), revive(62, 100)), true},
		{"a day ahead of the terms", holding(50, revive(60, 99)), false},
		{"a day behind the terms", holding(50, revive(60, 465)), false},
		{"a day outside, others behind it", holding(50, revive(60, 465), revive(60, 100)), false},
		{"a day outside, others ahead of it", holding(50, revive(60, 100), revive(60, 465)), false},
		{"a wrong change", holding(50, api.Change{Booked: 60, Day: 100}), false},
		{"a wrong change behind a right one", holding(50, revive(60, 100), api.Change{Booked: 60, Day: 100, Kind: 5}), false},
		{"a wrong change ahead of a right one", holding(50, api.Change{Booked: 60, Day: 100, Kind: api.HRisk}, revive(60, 100)), false},
		{"all kinds", holding(50, of(1, 50, 100), of(2, 51, 464), of(3, 51, 200), of(4, 60, 150)), true},
		{"one less than full", full(maxRows - 1), true},
		{"full", full(maxRows), true},
		{"more than full", full(maxRows + 1), false},
		{"much more than full", full(3 * maxRows), false},
	} {
		if got := change.History(x.h); got != x.want {
			t.Errorf("%s: %v; want %v", x.name, got, x.want)
		}
	}
}

func TestP11_3HistoryOfWhatBindRefuses(t *testing.T) {
	check := func(h api.History, want bool) {
		t.Helper()
		if got := change.History(h); got != want {
			t.Errorf("History(%v): %v; want %v", h, got, want)
		}
		h.Changes = nil
		if got := change.History(h); got != want {
			t.Errorf("History(%v): %v; want %v", h, got, want)
		}
	}
	for _, id := range []int{0, -1, 1, maxId, maxId + 1, 1<<32 + 1, math.MinInt, math.MaxInt} {
		h := holding(50, revive(60, 200))
		h.Id = id
		check(h, id == 1 || id == maxId)
	}
	for _, booked := range wrongDays() {
		check(holding(booked, revive(60, 200)), false)
	}
	check(holding(maxDay, revive(maxDay, 200)), true)
	check(holding(1, revive(1, 200)), true)
	for _, terms := range wrongTerms() {
		h := holding(50, revive(60, 200))
		h.Terms = terms
		check(h, false)
	}
}

// anyChange is a change that is right for made's terms, most of the time.
func anyChange(r *rand.Rand, booked int) api.Change {
	c := of(1+r.Intn(4), booked, 100+r.Intn(365))
	switch r.Intn(40) {
	case 0:
		c.Day = 99
	case 1:
		c.Day = 465
	case 2:
		c.Kind = r.Intn(6)
	case 3:
		c.Booked -= r.Intn(100)
	case 4:
		c.Way = r.Intn(3)
	}
	return c
}

// rebuilt tells by Bind and Put, one by one, whether a history may be.
func rebuilt(h api.History) bool {
	next, code := change.Bind(h.Id, h.Booked, h.Terms)
	for _, c := range h.Changes {
		if code == api.OK {
			next, code = change.Put(next, c)
		}
	}
	return code == api.OK && same(next, h)
}

func TestP11_3HistoryIsWhatBindAndPutMake(t *testing.T) {
	r := rand.New(rand.NewSource(113))
	var seen [2]int
	for range 6000 {
		h := holding(50 + r.Intn(3))
		booked := 51
		for range r.Intn(10) {
			booked += r.Intn(3)
			h.Changes = append(h.Changes, anyChange(r, booked))
		}
		if r.Intn(40) == 0 {
			h.Terms = wrongTerms()[r.Intn(len(wrongTerms()))]
		}
		want := rebuilt(h)
		if got := change.History(h); got != want {
			t.Fatalf("History(%v): %v; want %v", h, got, want)
		}
		if want {
			seen[1]++
		} else {
			seen[0]++
		}
	}
	if seen[0] < 500 || seen[1] < 500 {
		t.Error("too few of a kind were tried:", seen)
	}
}

// ofDays is a history of changes of these days, right or not, booked one behind the other.
func ofDays(days ...int) api.History {
	h := holding(50)
	for i, day := range days {
		h.Changes = append(h.Changes, revive(60+i, day))
	}
	return h
}

func TestP11_4Order(t *testing.T) {
	for _, x := range []struct {
		days []int
		want []int
	}{
		{nil, nil},
		{[]int{30}, []int{0}},
		{[]int{30, 10, 30, 20}, []int{1, 3, 0, 2}},
		{[]int{1, 2, 3}, []int{0, 1, 2}},
		{[]int{3, 2, 1}, []int{2, 1, 0}},
		{[]int{5, 5, 5, 5}, []int{0, 1, 2, 3}},
		{[]int{5, 4, 5, 4}, []int{1, 3, 0, 2}},
		{[]int{maxDay, 1, maxDay}, []int{1, 0, 2}},
		// Any days have an order, such that no day has too.
		{[]int{math.MaxInt, math.MinInt, 0, -1, 1 << 32}, []int{1, 3, 2, 4, 0}},
		{[]int{math.MinInt, math.MaxInt, math.MinInt}, []int{0, 2, 1}},
		{[]int{1<<32 + 1, 2}, []int{1, 0}},
	} {
		if got := change.Order(ofDays(x.days...)); !slices.Equal(got, x.want) {
			t.Errorf("Order of %v: %v; want %v", x.days, got, x.want)
		}
	}
	if got := change.Order(api.History{}); len(got) != 0 {
		t.Errorf("Order of the zero history: %v", got)
	}
}

// Order asks Days alone: neither when a change was booked, nor what it is, nor whether the history may be.
func TestP11_4OrderHangsOnDaysAlone(t *testing.T) {
	h := ofDays(30, 10, 30, 20)
	for i, booked := range []int{9, 400, 3, math.MinInt} {
		h.Changes[i].Booked = booked
		h.Changes[i].Kind = 9 - i
		h.Changes[i].Way = -i
	}
	h.Id, h.Booked, h.Terms = 0, 0, api.Terms{}
	if got := change.Order(h); !slices.Equal(got, []int{1, 3, 0, 2}) {
		t.Errorf("Order: %v", got)
	}
	for i, kind := range []int{4, 3, 2, 1} {
		h.Changes[i] = of(kind, 60, 5)
	}
	if got := change.Order(h); !slices.Equal(got, []int{0, 1, 2, 3}) {
		t.Errorf("Order of unlike kinds on one day: %v", got)
	}
}

// ordered is the places of days that rise, found one by one: each time the first one of the least day that is left.
func ordered(days []int) []int {
	var places []int
	for len(places) < len(days) {
		next := -1
		for i, day := range days {
			if !slices.Contains(places, i) && (next < 0 || day < days[next]) {
				next = i
			}
		}
		places = append(places, next)
	}
	return places
}

func TestP11_4OrderOfAnyDays(t *testing.T) {
	r := rand.New(rand.NewSource(114))
	for range 2000 {
		var days []int
		for range r.Intn(40) {
			days = append(days, 1+r.Intn(1+r.Intn(30)))
		}
		if got, want := change.Order(ofDays(days...)), ordered(days); !slices.Equal(got, want) {
			t.Fatalf("Order of %v: %v; want %v", days, got, want)
		}
	}
}

func TestP11_4P11_5OrderOfManyHasEachPlaceOnce(t *testing.T) {
	r := rand.New(rand.NewSource(115))
	// One of more changes than a history may have among them.
	for _, many := range []int{1, 2, 13, 100, maxRows, 5 * maxRows} {
		var days []int
		for range many {
			days = append(days, 100+r.Intn(365))
		}
		places := change.Order(ofDays(days...))
		seen := make([]bool, many)
		for i, place := range places {
			if place < 0 || place >= many || seen[place] {
				t.Fatalf("place %d of %d changes", place, many)
			}
			seen[place] = true
			if i > 0 && (days[places[i-1]] > days[place] || days[places[i-1]] == days[place] && places[i-1] > place) {
				t.Fatalf("places %d and %d are the wrong way round", places[i-1], place)
			}
		}
		if len(places) != many {
			t.Errorf("%d places of %d changes", len(places), many)
		}
	}
}

// inOrder is a history's changes, as Order puts them.
func inOrder(h api.History) []api.Change {
	var l []api.Change
	for _, place := range change.Order(h) {
		l = append(l, h.Changes[place])
	}
	return l
}

// Neighbours of unlike Days, booked on one day, may change places in the booking.
func TestP11_5ChangesOfOtherDaysMayChangePlaces(t *testing.T) {
	r := rand.New(rand.NewSource(116))
	for range 300 {
		h, _ := change.Bind(7, 50, made())
		booked := 50
		for range 2 + r.Intn(20) {
			booked += r.Intn(2) * r.Intn(2)
			h = put(t, h, of(1+r.Intn(4), booked, 100+r.Intn(12)))
		}
		want := inOrder(h)
		swapped := clone(h)
		for range 40 {
			i := r.Intn(len(h.Changes) - 1)
			a, b := swapped.Changes[i], swapped.Changes[i+1]
			if a.Day != b.Day && a.Booked == b.Booked {
				swapped.Changes[i], swapped.Changes[i+1] = b, a
			}
		}
		if !change.History(swapped) {
			t.Fatalf("History(%v): false", swapped)
		}
		if got := inOrder(swapped); !slices.EqualFunc(got, want, sameChange) {
			t.Fatalf("%v: %v; want %v", swapped.Changes, got, want)
		}
	}
}

func TestP11NothingIsWrittenInto(t *testing.T) {
	h := holding(50, of(2, 60, 300), of(1, 60, 100), of(2, 70, 200))
	c := of(2, 70, 150)
	before, given := clone(h), covers(0, 2)
	change.Right(c)
	change.History(h)
	change.Order(h)
	change.Bind(8, 50, h.Terms)
	change.Put(h, c)
	change.Put(h, revive(1, 1))
	if !same(h, before) || !slices.Equal(c.Covers, given) {
		t.Errorf("%v became %v", before, h)
	}
}

// spoil writes into each list of a history.
func spoil(h api.History) {
	for i := range h.Terms.Covers {
		h.Terms.Covers[i].Peril = 99
	}
	for i := range h.Changes {
		for j := range h.Changes[i].Covers {
			h.Changes[i].Covers[j].Peril = 99
		}
		h.Changes[i].Day = 99
	}
}

func TestP11_2P11_3AnswersAreNewMemory(t *testing.T) {
	terms := made()
	bound, _ := change.Bind(7, 50, terms)
	terms.Covers[0].Peril = 99
	if !same(bound, holding(50)) {
		t.Error("Bind keeps what is handed in:", bound)
	}
	spoil(bound)
	if terms.Covers[1].Peril == 99 {
		t.Error("Bind answers what is handed in")
	}

	h := holding(50, of(2, 60, 300))
	c := of(2, 70, 150)
	before := clone(h)
	next := put(t, h, c)
	want := clone(next)
	spoil(h)
	c.Covers[0].Peril = 99
	if !same(next, want) {
		t.Error("Put keeps what is handed in:", next)
	}
	h, c = clone(before), of(2, 70, 150)
	spoil(put(t, h, c))
	if !same(h, before) || c.Covers[0].Peril == 99 {
		t.Error("Put answers what is handed in:", h)
	}
}

// Two changes that are put to one history, in which there is room behind the last one, are two histories.
func TestP11_3PutTwiceToOneHistory(t *testing.T) {
	h := holding(50)
	h.Changes = append(make([]api.Change, 0, 20), revive(60, 300))
	room := h.Changes[:20]
	first, second := put(t, h, revive(70, 111)), put(t, h, revive(80, 222))
	if first.Changes[1].Day != 111 || second.Changes[1].Day != 222 {
		t.Errorf("days %d and %d", first.Changes[1].Day, second.Changes[1].Day)
	}
	if !sameChange(room[1], api.Change{}) {
		t.Error("written behind the end:", room[1])
	}
	// What was made by Put is put to twice, too.
	third, fourth := put(t, first, revive(90, 333)), put(t, first, revive(95, 444))
	if third.Changes[2].Day != 333 || fourth.Changes[2].Day != 444 || len(first.Changes) != 2 {
		t.Errorf("days %d and %d", third.Changes[2].Day, fourth.Changes[2].Day)
	}
}
