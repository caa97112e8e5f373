package slices_test

import (
	"math"
	"math/rand"
	list "slices"
	"testing"

	"bordereau/api"
	"bordereau/quote"
	"bordereau/slices"
)

const (
	maxDay   = 292194
	maxMoney = 1000000000000000
	maxRows  = 2000
)

// perils are covers that may be, if the perils may.
func perils(l ...int) []api.Cover {
	var covers []api.Cover
	for _, p := range l {
		covers = append(covers, api.Cover{Peril: p, Limit: 1000, Agg: 1500, Ded: 100, Share: 10000})
	}
	return covers
}

// home is a risk of which a year of a cover costs one in a hundred of 10000.
func home() api.Risk {
	return api.Risk{Kind: api.RHome, Value: 10000}
}

// motor is a risk of which it costs twice as much.
func motor() api.Risk {
	return api.Risk{Kind: api.RMotor, Value: 10000}
}

// plain is a version by which the kinds cost 1, 2, 3 and 4 in a hundred, in one zone.
func plain(from int) api.Version {
	return api.Version{From: from, Base: [4]int{100, 200, 300, 400}, Zone: []int{10000}, Peril: []int{10000, 10000, 10000, 10000, 10000, 10000, 10000, 10000}}
}

func tariffOf(l ...api.Version) api.Tariff {
	return api.Tariff{Versions: l}
}

// made is a history of the days 1 to 100, with these changes, right or not.
func made(l ...api.Change) api.History {
	return api.History{Id: 7, Booked: 1, Terms: api.Terms{Span: api.Span{From: 1, To: 101}, Risk: home(), Covers: perils(1)}, Changes: l}
}

func cancel(day int) api.Change {
	return api.Change{Booked: 1, Day: day, Kind: api.HCancel}
}

func revive(day int) api.Change {
	return api.Change{Booked: 1, Day: day, Kind: api.HRevive}
}

func risky(day int, r api.Risk) api.Change {
	return api.Change{Booked: 1, Day: day, Kind: api.HRisk, Risk: r}
}

func covering(day int, l ...int) api.Change {
	return api.Change{Booked: 1, Day: day, Kind: api.HCovers, Covers: perils(l...)}
}

func on(from, to int, r api.Risk, yearly int, l ...int) api.Slice {
	return api.Slice{Span: api.Span{From: from, To: to}, On: true, Risk: r, Covers: perils(l...), Yearly: yearly}
}

func off(from, to int, r api.Risk, l ...int) api.Slice {
	return api.Slice{Span: api.Span{From: from, To: to}, Risk: r, Covers: perils(l...)}
}

// same is what Same promises, told part by part.
func same(a, b api.Slice) bool {
	return a.Span == b.Span && a.On == b.On && a.Risk == b.Risk && list.Equal(a.Covers, b.Covers) && a.Yearly == b.Yearly
}

func checkOf(t *testing.T, name string, h api.History, tar api.Tariff, want ...api.Slice) {
	t.Helper()
	l, code := slices.Of(h, tar)
	if code != api.OK || !list.EqualFunc(l, want, same) {
		t.Errorf("%s: %v, code %d; want %v", name, l, code, want)
	}
}

func checkCode(t *testing.T, name string, h api.History, tar api.Tariff, want api.Errno) {
	t.Helper()
	if l, code := slices.Of(h, tar); code != want || l != nil {
		t.Errorf("%s: %v, code %d; want no slices, code %d", name, l, code, want)
	}
}

func cloneHistory(h api.History) api.History {
	h.Terms.Covers = list.Clone(h.Terms.Covers)
	h.Changes = list.Clone(h.Changes)
	for i, c := range h.Changes {
		h.Changes[i].Covers = list.Clone(c.Covers)
	}
	return h
}

func sameChange(a, b api.Change) bool {
	return a.Booked == b.Booked && a.Day == b.Day && a.Kind == b.Kind && a.Risk == b.Risk && list.Equal(a.Covers, b.Covers) && a.Way == b.Way
}

func sameHistory(a, b api.History) bool {
	return a.Id == b.Id && a.Booked == b.Booked && a.Terms.Span == b.Terms.Span && a.Terms.Risk == b.Terms.Risk && list.Equal(a.Terms.Covers, b.Terms.Covers) && list.EqualFunc(a.Changes, b.Changes, sameChange)
}

func TestP12_1WhatHolds(t *testing.T) {
	tar := tariffOf(plain(1))
	for _, c := range []struct {
		name    string
		changes []api.Change
		want    []api.Slice
	}{
		{"no change", nil, []api.Slice{on(1, 101, home(), 100, 1)}},
		{"cancelled, revived", []api.Change{cancel(41), revive(61)}, []api.Slice{on(1, 41, home(), 100, 1), off(41, 61, home(), 1), on(61, 101, home(), 100, 1)}},
		{"booked the other way round", []api.Change{revive(61), cancel(41)}, []api.Slice{on(1, 41, home(), 100, 1), off(41, 61, home(), 1), on(61, 101, home(), 100, 1)}},
		{"of one day the last one", []api.Change{cancel(41), revive(41)}, []api.Slice{on(1, 101, home(), 100, 1)}},
		{"of one day the last one, off", []api.Change{revive(41), cancel(41)}, []api.Slice{on(1, 41, home(), 100, 1), off(41, 101, home(), 1)}},
		{"off from the first day on", []api.Change{cancel(1)}, []api.Slice{off(1, 101, home(), 1)}},
		{"off on the last day", []api.Change{cancel(100)}, []api.Slice{on(1, 100, home(), 100, 1), off(100, 101, home(), 1)}},
		{"another risk", []api.Change{risky(31, motor())}, []api.Slice{on(1, 31, home(), 100, 1), on(31, 101, motor(), 200, 1)}},
		{"another risk from the first day on", []api.Change{risky(1, motor())}, []api.Slice{on(1, 101, motor(), 200, 1)}},
		{"two risks of one day", []api.Change{risky(31, motor()), risky(31, api.Risk{Kind: 2, Value: 10000})}, []api.Slice{on(1, 31, home(), 100, 1), on(31, 101, api.Risk{Kind: 2, Value: 10000}, 300, 1)}},
		{"there and back on one day", []api.Change{risky(31, motor()), risky(31, home())}, []api.Slice{on(1, 101, home(), 100, 1)}},
		{"other covers", []api.Change{covering(51, 1, 2), covering(81, 3)}, []api.Slice{on(1, 51, home(), 100, 1), on(51, 81, home(), 200, 1, 2), on(81, 101, home(), 100, 3)}},
		{"the same covers", []api.Change{covering(51, 1, 2), covering(71, 1, 2)}, []api.Slice{on(1, 51, home(), 100, 1), on(51, 101, home(), 200, 1, 2)}},
		{"a risk while off", []api.Change{cancel(21), risky(31, motor()), revive(41)}, []api.Slice{on(1, 21, home(), 100, 1), off(21, 31, home(), 1), off(31, 41, motor(), 1), on(41, 101, motor(), 200, 1)}},
		{"covers while off", []api.Change{cancel(21), covering(31, 1, 2), revive(41)}, []api.Slice{on(1, 21, home(), 100, 1), off(21, 31, home(), 1), off(31, 41, home(), 1, 2), on(41, 101, home(), 200, 1, 2)}},
		{"all on one day", []api.Change{cancel(31), risky(31, motor()), covering(31, 2, 3), revive(31)}, []api.Slice{on(1, 31, home(), 100, 1), on(31, 101, motor(), 400, 2, 3)}},
		{"what follows another one", []api.Change{risky(31, motor()), risky(61, home())}, []api.Slice{on(1, 31, home(), 100, 1), on(31, 61, motor(), 200, 1), on(61, 101, home(), 100, 1)}},
	} {
		checkOf(t, c.name, made(c.changes...), tar, c.want...)
	}
}

// A cover is another one, whichever of its numbers is, and so is a risk, though it cost the same.
func TestP12_1SomethingElse(t *testing.T) {
	tar := tariffOf(plain(1))
	for i, edit := range []func(c *api.Cover){
		func(c *api.Cover) { c.Peril = 2 },
		func(c *api.Cover) { c.Limit++ },
		func(c *api.Cover) { c.Agg++ },
		func(c *api.Cover) { c.Ded++ },
		func(c *api.Cover) { c.Share-- },
	} {
		other := covering(31, 1)
		edit(&other.Covers[0])
		l, code := slices.Of(made(other), tar)
		if code != api.OK || len(l) != 2 || !list.Equal(l[1].Covers, other.Covers) {
			t.Errorf("cover %d: %v, code %d; want two slices", i, l, code)
		}
	}
	tar.Versions[0].Zone = []int{10000, 10000}
	for i, r := range []api.Risk{{Value: 10001}, {Value: 10000, Age: 1}, {Value: 10000, Zone: 1}, {Kind: 1, Value: 10000}} {
		l, code := slices.Of(made(risky(31, r)), tar)
		if code != api.OK || len(l) != 2 || l[0].Risk != home() || l[1].Risk != r {
			t.Errorf("risk %d: %v, code %d; want two slices", i, l, code)
		}
	}
}

func TestP12_1Terms(t *testing.T) {
	tar := tariffOf(plain(1))
	for name, edit := range map[string]func(*api.Terms){
		"no days":          func(a *api.Terms) { a.Span.To = 1 },
		"the wrong way":    func(a *api.Terms) { a.Span = api.Span{From: 9, To: 8} },
		"from 0":           func(a *api.Terms) { a.Span.From = 0 },
		"too long":         func(a *api.Terms) { a.Span.To = 1102 },
		"behind all days":  func(a *api.Terms) { a.Span = api.Span{From: maxDay, To: maxDay + 2} },
		"whole numbers":    func(a *api.Terms) { a.Span = api.Span{From: math.MinInt, To: math.MaxInt} },
		"no value":         func(a *api.Terms) { a.Risk.Value = 0 },
		"no such kind":     func(a *api.Terms) { a.Risk.Kind = 4 },
		"no covers":        func(a *api.Terms) { a.Covers = nil },
		"nine covers":      func(a *api.Terms) { a.Covers = perils(0, 1, 2, 3, 4, 5, 6, 7, 7) },
		"covers that fall": func(a *api.Terms) { a.Covers = perils(2, 1) },
		"no such share":    func(a *api.Terms) { a.Covers[0].Share = 10001 },
	} {
		h := made()
		edit(&h.Terms)
		checkCode(t, name, h, tar, api.ErrArg)
		// Told ahead of what the tariff and the quote have.
		checkCode(t, name+", no tariff", h, api.Tariff{}, api.ErrArg)
		h.Changes = []api.Change{cancel(1)}
		checkCode(t, name+", off", h, tar, api.ErrArg)
	}
	h := made()
	h.Terms.Span = api.Span{From: 1, To: 1101}
	checkOf(t, "1100 days", h, tar, on(1, 1101, home(), 100, 1))
	h.Terms.Span = api.Span{From: maxDay, To: maxDay + 1}
	checkOf(t, "the last day", h, tar, on(maxDay, maxDay+1, home(), 100, 1))
	h.Changes = []api.Change{cancel(maxDay)}
	checkOf(t, "the last day, off", h, tar, off(maxDay, maxDay+1, home(), 1))
}

func TestP12_1Changes(t *testing.T) {
	tar := tariffOf(plain(1))
	for name, c := range map[string]api.Change{
		"no kind":          {Booked: 1, Day: 5},
		"kind 5":           {Booked: 1, Day: 5, Kind: 5},
		"kind below 0":     {Booked: 1, Day: 5, Kind: -1},
		"booked on 0":      {Day: 5, Kind: api.HRevive},
		"booked behind":    {Booked: maxDay + 1, Day: 5, Kind: api.HRevive},
		"a risk of none":   {Booked: 1, Day: 5, Kind: api.HRisk},
		"a risk and a way": {Booked: 1, Day: 5, Kind: api.HRisk, Risk: motor(), Way: 1},
		"covers of none":   {Booked: 1, Day: 5, Kind: api.HCovers},
		"covers and risk":  {Booked: 1, Day: 5, Kind: api.HCovers, Covers: perils(1), Risk: motor()},
		"a way of none":    {Booked: 1, Day: 5, Kind: api.HCancel, Way: 2},
		"revived by a way": {Booked: 1, Day: 5, Kind: api.HRevive, Way: 1},
		"day 0":            revive(0),
		"day -1":           revive(-1),
		"day 101":          revive(101),
		"day 292195":       revive(maxDay + 1),
		"the greatest":     revive(math.MaxInt),
		"the least":        revive(math.MinInt),
	} {
		for place := range 3 {
			h := made(cancel(5), cancel(7))
			h.Changes = list.Insert(h.Changes, place, c)
			checkCode(t, name, h, tar, api.ErrArg)
			checkCode(t, name+", no tariff", h, api.Tariff{}, api.ErrArg)
		}
	}
	h := made(revive(9), cancel(10), cancel(19), revive(20))
	h.Terms.Span = api.Span{From: 10, To: 20}
	checkCode(t, "ahead of the span", h, tar, api.ErrArg)
	h.Changes = h.Changes[1:]
	checkCode(t, "behind the span", h, tar, api.ErrArg)
	h.Changes = h.Changes[:2]
	checkOf(t, "in the span", h, tar, off(10, 20, home(), 1))
}

func TestP12_1Rows(t *testing.T) {
	tar := tariffOf(plain(1))
	h := made()
	h.Terms.Span.To = 1101
	for i := range maxRows {
		// Each day twice, off and on by turns.
		c := revive(1 + i/2)
		if i/2%2 == 1 {
			c = cancel(1 + i/2)
		}
		h.Changes = append(h.Changes, c)
	}
	l, code := slices.Of(h, tar)
	if code != api.OK || len(l) != 1000 || l[0].Span != (api.Span{From: 1, To: 2}) || l[999].Span != (api.Span{From: 1000, To: 1101}) {
		t.Errorf("%d changes: %d slices, code %d", maxRows, len(l), code)
	}
	h.Changes = append(h.Changes, revive(1100))
	checkCode(t, "one more", h, tar, api.ErrArg)
	h.Changes = append(h.Changes, h.Changes...)
	checkCode(t, "many more", h, tar, api.ErrArg)
	checkCode(t, "many more, no tariff", h, api.Tariff{}, api.ErrArg)
}

// When a history was booked, under which number, and in which order, isn't asked.
func TestP12_1NotAsked(t *testing.T) {
	tar := tariffOf(plain(1))
	want := []api.Slice{on(1, 41, home(), 100, 1), off(41, 61, home(), 1), on(61, 101, home(), 100, 1)}
	for _, id := range []int{math.MinInt, -1, 0, 1, 1000000001} {
		for _, booked := range []int{-1, 0, 50, maxDay + 1} {
			h := made(cancel(41), revive(61))
			h.Id, h.Booked = id, booked
			h.Changes[0].Booked, h.Changes[1].Booked = 40, 30
			checkOf(t, "not asked", h, tar, want...)
		}
	}
	h := made(cancel(41), revive(61))
	h.Changes[0].Way = api.GShort
	checkOf(t, "another way", h, tar, want...)
}

func TestP12_1Version(t *testing.T) {
	dear := plain(50)
	dear.Base = [4]int{500, 600, 700, 800}
	h := made(risky(60, motor()))
	two := tariffOf(plain(1), dear)
	checkOf(t, "from 1", h, two, on(1, 60, home(), 100, 1), on(60, 101, motor(), 200, 1))
	h.Terms.Span.From = 49
	checkOf(t, "from 49", h, two, on(49, 60, home(), 100, 1), on(60, 101, motor(), 200, 1))
	h.Terms.Span.From = 50
	checkOf(t, "from 50", h, two, on(50, 60, home(), 500, 1), on(60, 101, motor(), 600, 1))
	checkOf(t, "of a tariff that isn't right the last one", h, tariffOf(dear, plain(1)), on(50, 60, home(), 100, 1), on(60, 101, motor(), 200, 1))
	h.Terms.Span.From = 49
	checkCode(t, "no version yet", h, tariffOf(dear), api.ErrNone)
	checkCode(t, "no version", h, api.Tariff{}, api.ErrNone)
	h.Changes = []api.Change{cancel(49)}
	checkCode(t, "no version yet, off", h, tariffOf(dear), api.ErrNone)
	h.Terms.Covers = nil
	checkCode(t, "no version yet, no covers", h, tariffOf(dear), api.ErrArg)
}

func TestP12_1Quote(t *testing.T) {
	odd := plain(1)
	odd.Min = -1
	checkCode(t, "a version that isn't right", made(), tariffOf(odd), api.ErrArg)
	checkOf(t, "nothing is asked of what is off", made(cancel(1)), tariffOf(odd), off(1, 101, home(), 1))
	checkCode(t, "on for a day", made(cancel(1), revive(100)), tariffOf(odd), api.ErrArg)

	tar := tariffOf(plain(1))
	far := home()
	far.Zone = 1
	checkCode(t, "no such zone", made(risky(100, far)), tar, api.ErrNone)
	checkCode(t, "no such zone from the first day on", made(risky(1, far)), tar, api.ErrNone)
	checkOf(t, "no such zone, off", made(cancel(50), risky(50, far)), tar, on(1, 50, home(), 100, 1), off(50, 101, far, 1))
	checkOf(t, "never so for a day", made(risky(50, far), risky(50, home())), tar, on(1, 101, home(), 100, 1))

	great := plain(1)
	great.Base, great.Zone = [4]int{100000, 100000, 100000, 100000}, []int{100000}
	great.Peril = []int{10000, 10000, 100000, 10000, 10000, 10000, 10000, 100001}
	checkCode(t, "no such factor", made(), tariffOf(great), api.ErrArg)
	great.Peril[7] = 100000
	great.Age = []api.Band{{Upto: 0, Bp: 10000}, {Upto: 200, Bp: 100000}}
	rich := api.Risk{Kind: api.RTravel, Value: maxMoney}
	checkOf(t, "much", made(risky(1, rich)), tariffOf(great), on(1, 101, rich, 100*maxMoney, 1))
	four := perils(0, 1, 2, 3)
	h := made(risky(1, rich))
	h.Terms.Covers = four
	checkOf(t, "four", h, tariffOf(great), on(1, 101, rich, 1300*maxMoney, 0, 1, 2, 3))
	rich.Age = 1
	h = made(risky(1, rich), covering(1, 0, 1, 3, 4))
	checkOf(t, "the greatest", h, tariffOf(great), on(1, 101, rich, 4000*maxMoney, 0, 1, 3, 4))
	h.Changes[1] = covering(1, 0, 1, 3, 4, 5)
	checkCode(t, "too much together", h, tariffOf(great), api.ErrOver)
	h.Changes[1] = covering(1, 2)
	checkCode(t, "too much", h, tariffOf(great), api.ErrOver)
}

// Of several slices that have an error the first one that is on tells its own.
func TestP12_1FirstError(t *testing.T) {
	v := plain(1)
	v.Base, v.Zone, v.Peril[1] = [4]int{100000, 100, 100, 100}, []int{100000}, 100000
	v.Age = []api.Band{{Upto: 0, Bp: 10000}, {Upto: 1, Bp: 100000}}
	tar := tariffOf(v)
	far, rich := api.Risk{Value: 1, Zone: 9}, api.Risk{Value: maxMoney, Age: 1}
	checkCode(t, "none, over", made(risky(20, far), risky(30, rich)), tar, api.ErrNone)
	checkCode(t, "over, none", made(risky(30, far), risky(20, rich)), tar, api.ErrOver)
	checkCode(t, "the first one is off", made(cancel(20), risky(20, far), risky(30, rich), revive(30)), tar, api.ErrOver)
	checkCode(t, "the first one is off", made(cancel(20), risky(20, rich), risky(30, far), revive(30)), tar, api.ErrNone)
	h := made(risky(50, rich))
	h.Terms.Risk = far
	checkCode(t, "that of the terms", h, tar, api.ErrNone)
}

func TestP12_1Memory(t *testing.T) {
	h := made(risky(10, motor()), covering(20, 2, 3), cancel(30), risky(40, home()), revive(50), covering(60, 1), revive(60))
	h.Changes = append(make([]api.Change, 0, 20), h.Changes...)
	tar := tariffOf(plain(1))
	before := cloneHistory(h)
	l, code := slices.Of(h, tar)
	if code != api.OK || len(l) != 7 || !sameHistory(h, before) || !list.Equal(tar.Versions[0].Zone, plain(1).Zone) {
		t.Fatalf("%v, code %d, of %v", l, code, h)
	}
	want := make([]api.Slice, len(l))
	for i, s := range l {
		want[i] = s
		want[i].Covers = list.Clone(s.Covers)
	}
	h.Terms.Covers[0].Limit = 77
	for i := range h.Changes {
		for k := range h.Changes[i].Covers {
			h.Changes[i].Covers[k].Limit = 78
		}
	}
	if !list.EqualFunc(l, want, same) {
		t.Errorf("slices share memory with the history")
	}
	for i := range l {
		l[i].Covers[0].Limit = 79
		l[i].Covers = append(l[i].Covers, api.Cover{})
		for k := i + 1; k < len(l); k++ {
			if !same(l[k], want[k]) {
				t.Errorf("slices %d and %d share memory", i, k)
			}
		}
	}
	if h.Terms.Covers[0].Limit != 77 || h.Changes[1].Covers[0].Limit != 78 {
		t.Errorf("a slice shares memory with the history")
	}
}

func TestP12_2At(t *testing.T) {
	l := []api.Slice{on(10, 20, home(), 5, 1), off(20, 30, motor(), 2), on(30, 31, home(), 7, 3)}
	for day, place := range map[int]int{10: 0, 11: 0, 19: 0, 20: 1, 29: 1, 30: 2} {
		if s, there := slices.At(l, day); !there || !same(s, l[place]) {
			t.Errorf("day %d: %v, %t; want %v", day, s, there, l[place])
		}
	}
	for _, day := range []int{math.MinInt, -10, 0, 1, 9, 31, 32, maxDay, maxDay + 1, math.MaxInt} {
		if s, there := slices.At(l, day); there || !same(s, api.Slice{}) {
			t.Errorf("day %d: %v, %t; want none", day, s, there)
		}
	}
	for _, none := range [][]api.Slice{nil, {}, {{}}} {
		if s, there := slices.At(none, 1); there || !same(s, api.Slice{}) {
			t.Errorf("of none: %v, %t", s, there)
		}
	}
}

// Of any slices: such that share days, that don't rise, and whose spans have no days.
func TestP12_2AtAny(t *testing.T) {
	l := []api.Slice{
		on(0, 50, home(), 1, 1),
		on(50, 10, home(), 2, 1),
		on(40, 40, home(), 3, 1),
		on(40, maxDay+2, home(), 4, 1),
		on(math.MinInt, math.MaxInt, home(), 5, 1),
		on(40, 60, motor(), 6, 9, 9, 4),
		on(30, 50, home(), 7, 1),
		on(maxDay, maxDay+1, home(), 8),
		on(1, 2, home(), 9),
	}
	for day, place := range map[int]int{39: 6, 30: 6, 40: 5, 45: 5, 59: 5, maxDay: 7, 1: 8} {
		if s, there := slices.At(l, day); !there || !same(s, l[place]) {
			t.Errorf("day %d: %v, %t; want %v", day, s, there, l[place])
		}
	}
	for _, day := range []int{0, 2, 29, 60, maxDay - 1, maxDay + 1} {
		if s, there := slices.At(l, day); there || !same(s, api.Slice{}) {
			t.Errorf("day %d: %v, %t; want none", day, s, there)
		}
	}
	s, _ := slices.At(l, 45)
	s.Covers[0].Peril = 5
	if l[5].Covers[0].Peril != 9 {
		t.Errorf("the slice shares memory with the list")
	}
}

func TestP12_2Same(t *testing.T) {
	whole := func() api.Slice {
		return api.Slice{Span: api.Span{From: 3, To: 9}, On: true, Risk: api.Risk{Kind: 1, Value: 2, Age: 3, Zone: 4}, Covers: perils(1, 3), Yearly: 6}
	}
	if !slices.Same(whole(), whole()) || !slices.Same(api.Slice{}, api.Slice{}) {
		t.Errorf("a slice isn't what it is")
	}
	for i, edit := range []func(s *api.Slice){
		func(s *api.Slice) { s.Span.From++ },
		func(s *api.Slice) { s.Span.To++ },
		func(s *api.Slice) { s.Span = api.Span{From: 9, To: 3} },
		func(s *api.Slice) { s.On = false },
		func(s *api.Slice) { s.Risk.Kind++ },
		func(s *api.Slice) { s.Risk.Value++ },
		func(s *api.Slice) { s.Risk.Age++ },
		func(s *api.Slice) { s.Risk.Zone++ },
		func(s *api.Slice) { s.Yearly++ },
		func(s *api.Slice) { s.Yearly = -s.Yearly },
		func(s *api.Slice) { s.Covers = nil },
		func(s *api.Slice) { s.Covers = s.Covers[:1] },
		func(s *api.Slice) { s.Covers = s.Covers[1:] },
		func(s *api.Slice) { s.Covers = append(s.Covers, api.Cover{}) },
		func(s *api.Slice) { list.Reverse(s.Covers) },
		func(s *api.Slice) { s.Covers[0].Peril++ },
		func(s *api.Slice) { s.Covers[1].Limit++ },
		func(s *api.Slice) { s.Covers[0].Agg++ },
		func(s *api.Slice) { s.Covers[1].Ded++ },
		func(s *api.Slice) { s.Covers[1].Share++ },
	} {
		other := whole()
		edit(&other)
		if slices.Same(whole(), other) || slices.Same(other, whole()) || !slices.Same(other, other) {
			t.Errorf("edit %d: %v isn't told from %v", i, other, whole())
		}
	}
	bare, none := whole(), whole()
	bare.Covers, none.Covers = nil, []api.Cover{}
	if !slices.Same(bare, none) || !slices.Same(none, bare) || slices.Same(none, whole()) {
		t.Errorf("no covers aren't no covers")
	}
}

// holdsOn is what holds on a day, as the chapter's words say it: day by day, each day's changes as they stand.
func holdsOn(h api.History, day int) api.Slice {
	s := api.Slice{On: true, Risk: h.Terms.Risk, Covers: h.Terms.Covers}
	for d := h.Terms.Span.From; d <= day; d++ {
		for _, c := range h.Changes {
			switch {
			case c.Day != d:
			case c.Kind == api.HRisk:
				s.Risk = c.Risk
			case c.Kind == api.HCovers:
				s.Covers = c.Covers
			default:
				s.On = c.Kind == api.HRevive
			}
		}
	}
	return s
}

// asked are the slices of a history, made day by day.
func asked(h api.History, v api.Version) ([]api.Slice, api.Errno) {
	var l []api.Slice
	for day := h.Terms.Span.From; day < h.Terms.Span.To; day++ {
		s := holdsOn(h, day)
		s.Span = api.Span{From: day, To: day + 1}
		if s.On {
			yearly, code := quote.Year(v, s.Risk, s.Covers)
			if code != api.OK {
				return nil, code
			}
			s.Yearly = yearly
		}
		if last := len(l) - 1; last >= 0 && l[last].On == s.On && l[last].Risk == s.Risk && list.Equal(l[last].Covers, s.Covers) {
			l[last].Span.To = day + 1
			continue
		}
		l = append(l, s)
	}
	return l, api.OK
}

// anyHistory is a history of a few days, with changes whose days and contents are often alike.
func anyHistory(r *rand.Rand, zones int) api.History {
	from := 1 + r.Intn(5)
	h := api.History{Id: 1, Booked: 1, Terms: api.Terms{Span: api.Span{From: from, To: from + 1 + r.Intn(12)}, Risk: anyRisk(r, zones), Covers: anyCovers(r)}}
	for range r.Intn(12) {
		h.Changes = append(h.Changes, anyChange(r, h.Terms.Span, zones))
	}
	return h
}

func anyChange(r *rand.Rand, s api.Span, zones int) api.Change {
	c := api.Change{Booked: 1 + r.Intn(20), Day: s.From + r.Intn(s.To-s.From), Kind: 1 + r.Intn(4)}
	switch c.Kind {
	case api.HRisk:
		c.Risk = anyRisk(r, zones)
	case api.HCovers:
		c.Covers = anyCovers(r)
	case api.HCancel:
		c.Way = r.Intn(2)
	}
	return c
}

func anyRisk(r *rand.Rand, zones int) api.Risk {
	return api.Risk{Kind: r.Intn(2), Value: 10000 * (1 + r.Intn(2)), Zone: r.Intn(zones)}
}

func anyCovers(r *rand.Rand) []api.Cover {
	return [][]api.Cover{perils(1), perils(1, 2), perils(2), perils(0, 1, 2)}[r.Intn(4)]
}

func TestP12_1DayByDay(t *testing.T) {
	r := rand.New(rand.NewSource(12))
	v := plain(1)
	v.Zone = []int{10000, 20000}
	refused := 0
	for i := range 20000 {
		// Of three zones the version has two.
		h := anyHistory(r, 2+i%2)
		want, code := asked(h, v)
		if code != api.OK {
			refused++
			checkCode(t, "day by day", h, tariffOf(v), code)
			continue
		}
		checkOf(t, "day by day", h, tariffOf(v), want...)
	}
	if refused < 1000 {
		t.Errorf("only %d of them were refused", refused)
	}
}

// of are slices that must be there.
func of(t *testing.T, h api.History) []api.Slice {
	t.Helper()
	l, code := slices.Of(h, tariffOf(plain(1)))
	if code != api.OK {
		t.Fatalf("%v: code %d", h, code)
	}
	return l
}

func TestP12_3OnEnd(t *testing.T) {
	r := rand.New(rand.NewSource(123))
	for range 3000 {
		h := anyHistory(r, 1)
		next := h.Terms.Span.From
		l := of(t, h)
		for i, s := range l {
			if s.Span.From != next || s.Span.To <= next {
				t.Fatalf("slice %d of %v isn't on end", i, l)
			}
			next = s.Span.To
			for day := s.Span.From; day < s.Span.To; day++ {
				if found, there := slices.At(l, day); !there || !slices.Same(found, s) {
					t.Errorf("day %d: %v, %t; want %v", day, found, there, s)
				}
			}
		}
		if next != h.Terms.Span.To {
			t.Errorf("%v aren't all of %v", l, h.Terms.Span)
		}
	}
}

func TestP12_3OrderOfBooking(t *testing.T) {
	r := rand.New(rand.NewSource(1234))
	for range 3000 {
		h := anyHistory(r, 1)
		want := of(t, h)
		other := cloneHistory(h)
		// Neighbours of unlike days change places, again and again.
		for range 4 * len(other.Changes) {
			i := r.Intn(len(other.Changes))
			if i > 0 && other.Changes[i].Day != other.Changes[i-1].Day {
				other.Changes[i], other.Changes[i-1] = other.Changes[i-1], other.Changes[i]
			}
		}
		if l := of(t, other); !list.EqualFunc(l, want, slices.Same) {
			t.Errorf("%v of %v; %v of %v", l, other, want, h)
		}
	}
}

func TestP12_3WhatHoldsAlready(t *testing.T) {
	r := rand.New(rand.NewSource(12345))
	for range 3000 {
		h := anyHistory(r, 1)
		want := of(t, h)
		day := h.Terms.Span.From + r.Intn(h.Terms.Span.To-h.Terms.Span.From)
		now, there := slices.At(want, day)
		if !there {
			t.Fatalf("day %d of %v: none", day, want)
		}
		// Behind all others of its day it says what holds on it.
		last := revive(day)
		if !now.On {
			last = cancel(day)
		}
		for _, c := range []api.Change{last, risky(day, now.Risk), {Booked: 1, Day: day, Kind: api.HCovers, Covers: now.Covers}} {
			more := cloneHistory(h)
			more.Changes = append(more.Changes, c)
			if l := of(t, more); !list.EqualFunc(l, want, slices.Same) {
				t.Errorf("%v with %v; %v without", l, c, want)
			}
		}
	}
}

func TestP12_3AheadOfAChange(t *testing.T) {
	r := rand.New(rand.NewSource(123456))
	for range 3000 {
		h := anyHistory(r, 1)
		c := anyChange(r, h.Terms.Span, 1)
		more := cloneHistory(h)
		more.Changes = list.Insert(more.Changes, r.Intn(len(more.Changes)+1), c)
		without, with := of(t, h), of(t, more)
		for day := h.Terms.Span.From; day < c.Day; day++ {
			a, _ := slices.At(without, day)
			b, there := slices.At(with, day)
			a.Span, b.Span = api.Span{}, api.Span{}
			if !there || !slices.Same(a, b) {
				t.Errorf("day %d: %v with %v; %v without", day, b, c, a)
			}
		}
	}
}
