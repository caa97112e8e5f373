package notice_test

import (
	"math"
	"math/rand"
	list "slices"
	"testing"

	"bordereau/api"
	"bordereau/change"
	"bordereau/known"
	"bordereau/notice"
)

const (
	maxDay   = 292194
	maxId    = 1000000000
	maxMoney = 1000000000000000
	maxRows  = 2000
)

// cover is a cover of a peril that is told from others of it by its limit.
func cover(peril, limit int) api.Cover {
	return api.Cover{Peril: peril, Limit: limit, Agg: limit + 5, Ded: 1, Share: 9000}
}

// home is a risk of which a year of a cover costs one in a hundred of 10000.
func home() api.Risk {
	return api.Risk{Kind: api.RHome, Value: 10000}
}

// motor is a risk of which it costs twice as much.
func motor() api.Risk {
	return api.Risk{Kind: api.RMotor, Value: 10000}
}

// far is a risk whose zone plain hasn't.
func far() api.Risk {
	return api.Risk{Kind: api.RHome, Value: 10000, Zone: 1}
}

// rich is a risk of which a year by steep costs more than can be told.
func rich() api.Risk {
	return api.Risk{Kind: api.RHome, Value: maxMoney}
}

// plain is a tariff by which the kinds cost 1, 2, 3 and 4 in a hundred, in one zone.
func plain() api.Tariff {
	return api.Tariff{Versions: []api.Version{{From: 1, Base: [4]int{100, 200, 300, 400}, Zone: []int{10000}, Peril: []int{10000, 10000, 10000, 10000, 10000, 10000, 10000, 10000}}}}
}

// steep is a tariff like plain, by which a year of a home costs ten thousand times its value.
func steep() api.Tariff {
	t := plain()
	t.Versions[0].Base[0] = 100000
	t.Versions[0].Zone[0] = 100000
	t.Versions[0].Peril[1] = 100000
	t.Versions[0].Age = []api.Band{{Upto: 200, Bp: 100000}}
	return t
}

// late is a tariff like plain that holds from the day on behind the first one.
func late() api.Tariff {
	t := plain()
	t.Versions[0].From = 2
	return t
}

// made is policy 7 of the days 1 to 100, booked on 5, of perils 1 and 3, with these changes, right or not.
func made(l ...api.Change) api.History {
	return api.History{Id: 7, Booked: 5, Terms: api.Terms{Span: api.Span{From: 1, To: 101}, Risk: home(), Covers: []api.Cover{cover(1, 10), cover(3, 30)}}, Changes: l}
}

// ended is the policy of the chapter's example.
func ended() api.History {
	return made(cancel(60, 41))
}

func cancel(booked, day int) api.Change {
	return api.Change{Booked: booked, Day: day, Kind: api.HCancel}
}

func revive(booked, day int) api.Change {
	return api.Change{Booked: booked, Day: day, Kind: api.HRevive}
}

func risky(booked, day int, r api.Risk) api.Change {
	return api.Change{Booked: booked, Day: day, Kind: api.HRisk, Risk: r}
}

func covering(booked, day int, l ...api.Cover) api.Change {
	return api.Change{Booked: booked, Day: day, Kind: api.HCovers, Covers: l}
}

// of is a claim of policy 7.
func of(peril, loss, booked int) api.Claim {
	return api.Claim{Id: 900, Policy: 7, Peril: peril, Loss: loss, Booked: booked}
}

func clone(h api.History) api.History {
	h.Terms.Covers = list.Clone(h.Terms.Covers)
	h.Changes = list.Clone(h.Changes)
	for i, c := range h.Changes {
		h.Changes[i].Covers = list.Clone(c.Covers)
	}
	return h
}

func cloneTariff(t api.Tariff) api.Tariff {
	t.Versions = list.Clone(t.Versions)
	for i, v := range t.Versions {
		t.Versions[i].Age, t.Versions[i].Zone, t.Versions[i].Peril = list.Clone(v.Age), list.Clone(v.Zone), list.Clone(v.Peril)
	}
	return t
}

func sameChange(a, b api.Change) bool {
	return a.Booked == b.Booked && a.Day == b.Day && a.Kind == b.Kind && a.Risk == b.Risk && list.Equal(a.Covers, b.Covers) && a.Way == b.Way
}

func sameHistory(a, b api.History) bool {
	return a.Id == b.Id && a.Booked == b.Booked && a.Terms.Span == b.Terms.Span && a.Terms.Risk == b.Terms.Risk && list.Equal(a.Terms.Covers, b.Terms.Covers) && list.EqualFunc(a.Changes, b.Changes, sameChange)
}

func sameVersion(a, b api.Version) bool {
	return a.From == b.From && a.Base == b.Base && list.Equal(a.Age, b.Age) && list.Equal(a.Zone, b.Zone) && list.Equal(a.Peril, b.Peril) && a.Min == b.Min
}

func sameTariff(a, b api.Tariff) bool {
	return list.EqualFunc(a.Versions, b.Versions, sameVersion)
}

func checkCovered(t *testing.T, name string, h api.History, tar api.Tariff, c api.Claim, want api.Cover) {
	t.Helper()
	beforeH, beforeT := clone(h), cloneTariff(tar)
	if got, code := notice.Covered(h, tar, c); code != api.OK || got != want {
		t.Errorf("%s: Covered of %v by %v: %v, code %d; want %v", name, c, h, got, code, want)
	}
	if !sameHistory(h, beforeH) || !sameTariff(tar, beforeT) {
		t.Errorf("%s: Covered changed what it was given", name)
	}
}

func checkCode(t *testing.T, name string, h api.History, tar api.Tariff, c api.Claim, want api.Errno) {
	t.Helper()
	beforeH, beforeT := clone(h), cloneTariff(tar)
	if got, code := notice.Covered(h, tar, c); code != want || got != (api.Cover{}) {
		t.Errorf("%s: Covered of %v by %v: %v, code %d; want none, code %d", name, c, h, got, code, want)
	}
	if !sameHistory(h, beforeH) || !sameTariff(tar, beforeT) {
		t.Errorf("%s: Covered changed what it was given", name)
	}
}

// field is a claim's number by its name, with its least and its greatest value.
type field struct {
	name      string
	at        func(*api.Claim) *int
	low, high int
}

func fields() []field {
	return []field{
		{"Id", func(c *api.Claim) *int { return &c.Id }, 1, maxId},
		{"Policy", func(c *api.Claim) *int { return &c.Policy }, 1, maxId},
		{"Event", func(c *api.Claim) *int { return &c.Event }, 0, maxId},
		{"Peril", func(c *api.Claim) *int { return &c.Peril }, 0, 7},
		{"Loss", func(c *api.Claim) *int { return &c.Loss }, 1, maxDay},
		{"Booked", func(c *api.Claim) *int { return &c.Booked }, 1, maxDay},
	}
}

func TestP17_1EachFieldAtItsBounds(t *testing.T) {
	for _, f := range fields() {
		for _, x := range []struct {
			n    int
			want bool
		}{
			{f.low, true}, {f.low + 1, true}, {f.high - 1, true}, {f.high, true},
			{f.low - 1, false}, {f.low - 2, false}, {-7, false}, {f.high + 1, false}, {f.high + 2, false},
			{math.MinInt, false}, {math.MinInt + 1, false}, {math.MaxInt, false}, {math.MaxInt - 1, false},
			{-1 << 32, false}, {1<<32 + 1, false}, {1 << 32, false}, {math.MinInt + 5, false},
		} {
			c := api.Claim{Id: 5, Policy: 6, Peril: 3, Loss: 40, Booked: 50, Event: 9}
			*f.at(&c) = x.n
			if got := notice.Right(c); got != x.want {
				t.Errorf("%s of %v: %v; want %v", f.name, c, got, x.want)
			}
		}
	}
}

// Each field at each of four numbers, beside all others: two of them right, two of them not.
func TestP17_1AllFieldsTogether(t *testing.T) {
	all := fields()
	for which := range 1 << (2 * len(all)) {
		var c api.Claim
		want := true
		for i, f := range all {
			n := []int{f.low, f.high, f.low - 1, f.high + 1}[which>>(2*i)&3]
			*f.at(&c) = n
			want = want && n >= f.low && n <= f.high
		}
		if got := notice.Right(c); got != want {
			t.Fatalf("Right(%v): %v; want %v", c, got, want)
		}
	}
}

func TestP17_1Perils(t *testing.T) {
	for peril := -3; peril < 300; peril++ {
		if got, want := notice.Right(of(peril, 4, 5)), peril >= 0 && peril <= 7; got != want {
			t.Errorf("peril %d: %v; want %v", peril, got, want)
		}
	}
}

// Right asks of each number alone: days may stand the wrong way round, and an event may be of any number.
func TestP17_1NoNumberHangsOnAnother(t *testing.T) {
	for _, c := range []api.Claim{
		{Id: 1, Policy: 1, Loss: 2, Booked: 1},
		{Id: 1, Policy: 1, Loss: maxDay, Booked: 1},
		{Id: 1, Policy: 1, Loss: 1, Booked: maxDay},
		{Id: 1, Policy: maxId, Event: 1, Loss: 1, Booked: 1},
		{Id: maxId, Policy: 1, Event: maxId, Peril: 7, Loss: 1, Booked: 1},
	} {
		if !notice.Right(c) {
			t.Errorf("Right(%v): false", c)
		}
	}
	if notice.Right(api.Claim{}) {
		t.Error("the zero claim: true")
	}
}

func TestP17_2Example(t *testing.T) {
	checkCovered(t, "booked on 55", ended(), plain(), of(1, 50, 55), cover(1, 10))
	checkCode(t, "booked on 61", ended(), plain(), of(1, 50, 61), api.ErrCover)
}

// The day on which it is booked tells what is known, the day of the loss what holds.
func TestP17_2TwoTimes(t *testing.T) {
	h := made(cancel(60, 41), covering(70, 21, cover(2, 21)), revive(80, 81), covering(90, 1, cover(1, 77)))
	for _, x := range []struct {
		name         string
		loss, booked int
		one, two     int // the limits of the covers of perils 1 and 2, 0: none
	}{
		{"ahead of the first change", 50, 59, 10, 0},
		{"on the day of the first change's booking", 50, 60, 0, 0},
		{"ahead of the first change's day", 40, 60, 10, 0},
		{"on the first change's day", 41, 60, 0, 0},
		{"ahead of the second one's booking", 40, 69, 10, 0},
		{"on the second one's booking", 40, 70, 0, 21},
		{"on the second one's day", 21, 70, 0, 21},
		{"ahead of the second one's day", 20, 70, 10, 0},
		{"off, with other covers", 50, 70, 0, 0},
		{"ahead of the third one's booking", 79, 79, 0, 0},
		{"on the third one's booking, ahead of its day", 80, 80, 0, 0},
		{"on the third one's day", 81, 81, 0, 21},
		{"ahead of the last one's booking", 81, 89, 0, 21},
		{"on the last one's booking, of the whole", 20, 90, 77, 0},
		{"on the last one's booking, changed behind it", 40, 90, 0, 21},
		{"the first day", 1, 5, 10, 0},
		{"the first day, by what was known at last", 1, maxDay, 77, 0},
		{"the last day", 100, 100, 0, 21},
		{"behind the last day", 101, 101, 0, 0},
		{"far behind", maxDay, maxDay, 0, 0},
	} {
		for peril, limit := range map[int]int{0: 0, 1: x.one, 2: x.two, 4: 0, 7: 0} {
			c := of(peril, x.loss, x.booked)
			if limit == 0 {
				checkCode(t, x.name, h, plain(), c, api.ErrCover)
			} else {
				checkCovered(t, x.name, h, plain(), c, cover(peril, limit))
			}
		}
	}
}

// A policy's days, and that of its booking, at their bounds.
func TestP17_2Bounds(t *testing.T) {
	h := made()
	h.Terms.Span = api.Span{From: 20, To: 30}
	h.Booked = 25
	for loss := 1; loss <= 40; loss++ {
		for booked := loss; booked <= 40; booked++ {
			switch {
			case booked < 25:
				checkCode(t, "not known yet", h, plain(), of(3, loss, booked), api.ErrNone)
			case loss < 20 || loss >= 30:
				checkCode(t, "none of its days", h, plain(), of(3, loss, booked), api.ErrCover)
			default:
				checkCovered(t, "one of its days", h, plain(), of(3, loss, booked), cover(3, 30))
			}
		}
	}
	h.Terms.Span = api.Span{From: maxDay - 3, To: maxDay + 1}
	checkCovered(t, "the last day of all", h, plain(), of(1, maxDay, maxDay), cover(1, 10))
	checkCode(t, "ahead of the last days", h, plain(), of(1, maxDay-4, maxDay), api.ErrCover)
	h.Booked = maxDay
	checkCovered(t, "booked on the last day", h, plain(), of(1, maxDay-3, maxDay), cover(1, 10))
	checkCode(t, "booked behind it", h, plain(), of(1, maxDay-3, maxDay-1), api.ErrNone)
	h.Booked = maxDay + 1
	checkCode(t, "never known", h, plain(), of(1, maxDay, maxDay), api.ErrNone)
	h.Booked = math.MinInt
	checkCovered(t, "always known", h, plain(), of(1, maxDay, maxDay), cover(1, 10))
}

// Of a claim its number and its event play no part.
func TestP17_2NumbersOfClaims(t *testing.T) {
	h := ended()
	for _, policy := range []int{1, 7, maxId} {
		h.Id = policy
		for _, c := range []api.Claim{{Id: 1}, {Id: maxId, Event: maxId}, {Id: 7, Event: 1}} {
			c.Policy, c.Peril, c.Loss, c.Booked = policy, 3, 40, 60
			checkCovered(t, "numbers", h, plain(), c, cover(3, 30))
		}
	}
}

func TestP17_2EachPeril(t *testing.T) {
	h := made()
	for set := 1; set < 256; set++ {
		h.Terms.Covers = nil
		for peril := range 8 {
			if set>>peril&1 == 1 {
				h.Terms.Covers = append(h.Terms.Covers, cover(peril, 100*set+peril))
			}
		}
		for peril := range 8 {
			c := of(peril, 50, 50)
			if set>>peril&1 == 1 {
				checkCovered(t, "of a set", h, plain(), c, cover(peril, 100*set+peril))
			} else {
				checkCode(t, "not of a set", h, plain(), c, api.ErrCover)
			}
		}
	}
}

// A change of the risk, and one that says what holds, leave the covers as they are.
func TestP17_2OtherChanges(t *testing.T) {
	h := made(risky(10, 20, motor()), cancel(10, 30), revive(10, 40), cancel(10, 50), risky(10, 55, home()), covering(10, 60, cover(1, 10), cover(3, 31)), revive(10, 70))
	for loss := 1; loss <= 100; loss++ {
		switch {
		case loss >= 30 && loss < 40 || loss >= 50 && loss < 70:
			checkCode(t, "off", h, plain(), of(3, loss, 100), api.ErrCover)
		case loss < 70:
			checkCovered(t, "ahead of the covers", h, plain(), of(3, loss, 100), cover(3, 30))
		default:
			checkCovered(t, "behind the covers", h, plain(), of(3, loss, 100), cover(3, 31))
		}
	}
	checkCovered(t, "off and on, on one day", made(cancel(10, 30), revive(10, 30)), plain(), of(1, 30, 30), cover(1, 10))
	checkCode(t, "on and off, on one day", made(revive(10, 30), cancel(10, 30)), plain(), of(1, 30, 30), api.ErrCover)
	checkCode(t, "off from the first day on", made(cancel(10, 1)), plain(), of(1, 100, 100), api.ErrCover)
}

func TestP17_2WrongClaims(t *testing.T) {
	for _, f := range fields() {
		for _, n := range []int{f.low - 1, f.high + 1, math.MinInt, math.MaxInt} {
			c := of(1, 50, 55)
			c.Event = 3
			*f.at(&c) = n
			checkCode(t, f.name, ended(), plain(), c, api.ErrArg)
		}
	}
	checkCode(t, "the zero claim", ended(), plain(), api.Claim{}, api.ErrArg)
	checkCode(t, "the zero claim of nothing", api.History{}, api.Tariff{}, api.Claim{}, api.ErrArg)
	// A policy's number that isn't one is no claim's.
	h := ended()
	h.Id = 0
	c := of(1, 50, 55)
	c.Policy = 0
	checkCode(t, "policy 0", h, plain(), c, api.ErrArg)
}

func TestP17_2DaysTheWrongWayRound(t *testing.T) {
	for _, x := range []struct{ loss, booked int }{{50, 49}, {2, 1}, {maxDay, maxDay - 1}, {maxDay, 1}, {101, 100}} {
		checkCode(t, "wrong way round", ended(), plain(), of(1, x.loss, x.booked), api.ErrOrder)
	}
	checkCovered(t, "of one day", made(), plain(), of(1, 50, 50), cover(1, 10))
}

// Of two things that a claim or a policy lacks the one is told that the promise names first.
func TestP17_2OrderOfCodes(t *testing.T) {
	wrong := made(api.Change{Booked: 10, Day: 50, Kind: 5})
	uncovered := made()
	uncovered.Terms.Covers = nil
	other := of(1, 50, 55)
	other.Policy = 8
	otherOrder := of(1, 50, 49)
	otherOrder.Policy = 8
	odd := of(9, 50, 49)
	odd.Policy = 8
	for _, x := range []struct {
		name string
		h    api.History
		tar  api.Tariff
		c    api.Claim
		want api.Errno
	}{
		{"a wrong claim, its days, its policy", made(), plain(), odd, api.ErrArg},
		{"a wrong claim, not known", made(), plain(), of(8, 3, 4), api.ErrArg},
		{"a wrong claim, its days", made(), plain(), of(-1, 50, 49), api.ErrArg},
		{"a wrong claim, not covered", made(), plain(), of(8, 50, 55), api.ErrArg},
		{"its days, its policy", made(), plain(), otherOrder, api.ErrOrder},
		{"its days, not known", made(), plain(), of(1, 50, 4), api.ErrOrder},
		{"its days, wrong slices", wrong, plain(), of(1, 50, 49), api.ErrOrder},
		{"its days, not covered", made(), plain(), of(2, 50, 49), api.ErrOrder},
		{"its policy", made(), plain(), other, api.ErrNone},
		{"its policy, wrong slices", wrong, plain(), other, api.ErrNone},
		{"its policy, wrong terms", uncovered, plain(), other, api.ErrNone},
		{"its policy, not covered", made(cancel(10, 1)), plain(), other, api.ErrNone},
		{"not known", made(), plain(), of(1, 3, 4), api.ErrNone},
		{"not known, wrong terms", uncovered, plain(), of(1, 3, 4), api.ErrNone},
		{"not known, not covered", made(), plain(), of(2, 3, 4), api.ErrNone},
		{"wrong terms", uncovered, plain(), of(1, 50, 55), api.ErrArg},
		{"wrong terms, none of its days", uncovered, plain(), of(1, 200, 200), api.ErrArg},
		{"wrong slices, not covered", wrong, plain(), of(2, 50, 55), api.ErrArg},
		{"wrong slices, none of its days", wrong, plain(), of(1, 200, 200), api.ErrArg},
		{"a change behind its days", made(cancel(10, 101)), plain(), of(1, 50, 55), api.ErrArg},
		{"no tariff", made(), api.Tariff{}, of(1, 50, 55), api.ErrNone},
		{"no tariff, not covered", made(), api.Tariff{}, of(2, 50, 55), api.ErrNone},
		{"no version yet", made(), late(), of(1, 50, 55), api.ErrNone},
		{"no zone, from behind the loss on", made(risky(10, 80, far())), plain(), of(1, 50, 55), api.ErrNone},
		{"no zone, not covered", made(risky(10, 80, far())), plain(), of(2, 50, 55), api.ErrNone},
		{"too much, from behind the loss on", made(risky(10, 80, rich())), steep(), of(1, 50, 55), api.ErrOver},
		{"too much, off on the day of the loss", made(cancel(10, 40), revive(10, 60), risky(10, 80, rich())), steep(), of(1, 50, 55), api.ErrOver},
		{"too much, none of its days", made(risky(10, 80, rich())), steep(), of(1, 200, 200), api.ErrOver},
	} {
		checkCode(t, x.name, x.h, x.tar, x.c, x.want)
	}
}

// What isn't known yet isn't asked whether it is right.
func TestP17_2WhatIsNotKnownIsNotAsked(t *testing.T) {
	for name, c := range map[string]api.Change{
		"of no kind":      {Booked: 60, Day: 50, Kind: 5},
		"of no day":       {Booked: 60, Kind: api.HCancel},
		"behind its days": cancel(60, 101),
		"of no zone":      risky(60, 1, far()),
		"without covers":  covering(60, 1),
		"of no booking":   cancel(maxDay+1, 1),
	} {
		checkCovered(t, name, made(c), plain(), of(1, 50, 59), cover(1, 10))
	}
	for name, c := range map[string]api.Change{
		"of no kind":      {Booked: 60, Day: 50, Kind: 5},
		"of no day":       {Booked: 60, Kind: api.HCancel},
		"behind its days": cancel(60, 101),
		"without covers":  covering(60, 1),
	} {
		checkCode(t, name, made(c), plain(), of(1, 50, 60), api.ErrArg)
	}
	checkCode(t, "of no zone", made(risky(60, 1, far())), plain(), of(1, 50, 60), api.ErrNone)
}

// As many changes count as were known when the claim was booked.
func TestP17_2ManyChanges(t *testing.T) {
	h := made()
	for i := range maxRows + 1 {
		h.Changes = append(h.Changes, covering(100+i, 50, cover(1, 1000+i)))
	}
	for _, many := range []int{1, 2, 1000, maxRows - 1, maxRows} {
		checkCovered(t, "ahead of all their days", h, plain(), of(1, 49, 99+many), cover(1, 10))
		checkCovered(t, "by the last one that was known", h, plain(), of(1, 50, 99+many), cover(1, 999+many))
	}
	checkCode(t, "too many", h, plain(), of(1, 50, 100+maxRows), api.ErrArg)
	checkCode(t, "too many, ahead of all their days", h, plain(), of(1, 49, 100+maxRows), api.ErrArg)
}

// A policy that may not be has slices' own code, whatever its numbers are.
func TestP17_2WrongPolicies(t *testing.T) {
	for _, s := range []api.Span{{}, {From: 9, To: 2}, {From: 50, To: 50}, {From: 0, To: 100}, {From: 1, To: 1102}, {From: math.MinInt, To: math.MaxInt}, {From: math.MaxInt, To: math.MinInt}, {From: maxDay, To: maxDay + 2}} {
		h := made()
		h.Terms.Span = s
		checkCode(t, "span", h, plain(), of(1, 50, 55), api.ErrArg)
	}
	for _, l := range [][]api.Cover{nil, {}, {{}}, {cover(3, 30), cover(1, 10)}, {cover(1, 10), cover(1, 10)}, {cover(1, 10), {Peril: 2}}, {cover(8, 80)}} {
		h := made()
		h.Terms.Covers = l
		checkCode(t, "covers", h, plain(), of(1, 50, 55), api.ErrArg)
	}
	for _, c := range []api.Change{{}, {Booked: 10, Day: 50}, {Booked: math.MinInt, Day: 50, Kind: api.HCancel}, {Booked: 10, Day: math.MaxInt, Kind: api.HCancel}, {Booked: 10, Day: 50, Kind: api.HCancel, Way: 2}, risky(10, 50, api.Risk{}), covering(10, 50, api.Cover{})} {
		checkCode(t, "change", made(c), plain(), of(1, 40, 55), api.ErrArg)
	}
	odd := plain()
	odd.Versions[0].Min = -1
	checkCode(t, "version", made(), odd, of(1, 50, 55), api.ErrArg)
}

func checkWhy(t *testing.T, name string, h api.History, tar api.Tariff, l []api.Claim, want ...api.Errno) {
	t.Helper()
	beforeH, beforeT, before := clone(h), cloneTariff(tar), list.Clone(l)
	got := notice.Why(h, tar, l)
	if len(got) != len(want) {
		t.Errorf("%s: Why of %d claims: %d codes; want %d", name, len(l), len(got), len(want))
		return
	}
	for i := range got {
		if got[i] != want[i] {
			t.Errorf("%s: Why, at place %d, of %v by %v: code %d; want %d", name, i, l[i], h, got[i], want[i])
			return
		}
	}
	if !sameHistory(h, beforeH) || !sameTariff(tar, beforeT) || !list.Equal(l, before) {
		t.Errorf("%s: Why changed what it was given", name)
	}
}

func TestP17_3Why(t *testing.T) {
	other := of(1, 50, 55)
	other.Policy = 8
	claims := []api.Claim{of(1, 50, 55), of(1, 50, 61), of(8, 50, 55), of(1, 50, 49), other, of(1, 3, 4), of(2, 50, 55), of(3, 100, 100), of(3, 40, 100)}
	codes := []api.Errno{api.OK, api.ErrCover, api.ErrArg, api.ErrOrder, api.ErrNone, api.ErrNone, api.ErrCover, api.ErrCover, api.OK}
	h := ended()
	checkWhy(t, "each", h, plain(), claims, codes...)
	checkWhy(t, "nil", h, plain(), nil)
	checkWhy(t, "none", h, plain(), []api.Claim{})
	checkWhy(t, "none of nothing", api.History{}, api.Tariff{}, nil)
	r := rand.New(rand.NewSource(173))
	for range 200 {
		r.Shuffle(len(claims), func(i, k int) {
			claims[i], claims[k] = claims[k], claims[i]
			codes[i], codes[k] = codes[k], codes[i]
		})
		many := r.Intn(len(claims) + 1)
		checkWhy(t, "in another order", h, plain(), claims[:many], codes[:many]...)
		checkWhy(t, "twice", h, plain(), list.Concat(claims, claims[:many]), list.Concat(codes, codes[:many])...)
	}
	checkWhy(t, "no tariff", h, api.Tariff{}, []api.Claim{of(1, 50, 55), of(1, 50, 49), {}}, api.ErrNone, api.ErrOrder, api.ErrArg)
	checkWhy(t, "too much, once it is known", made(risky(60, 80, rich())), steep(), []api.Claim{of(1, 50, 60), of(1, 50, 59), of(1, 50, 60)}, api.ErrOver, api.OK, api.ErrOver)
	checkWhy(t, "no zone, once it is known", made(risky(60, 80, far())), plain(), []api.Claim{of(1, 50, 60), of(1, 50, 59), of(1, 50, 60)}, api.ErrNone, api.OK, api.ErrNone)
}

func TestP17_3ManyClaims(t *testing.T) {
	h := ended()
	var l []api.Claim
	var want []api.Errno
	for i := range 5000 {
		l = append(l, of(1+i%3, 1+i%100, 100))
		switch {
		case i%100 < 40 && i%3 != 1:
			want = append(want, api.OK)
		default:
			want = append(want, api.ErrCover)
		}
	}
	checkWhy(t, "many", h, plain(), l, want...)
}

func TestP17_3Memory(t *testing.T) {
	h, l := ended(), []api.Claim{of(1, 50, 55), of(1, 50, 61)}
	first := notice.Why(h, plain(), l)
	second := notice.Why(h, plain(), l)
	first[0], first[1] = 77, 78
	if !list.Equal(second, []api.Errno{api.OK, api.ErrCover}) {
		t.Errorf("two answers share memory: %v", second)
	}
	checkWhy(t, "again", h, plain(), l, api.OK, api.ErrCover)
}

// anyHistory is a history of a few days, with changes whose days are often alike, booked in order; no two of its covers have one limit.
func anyHistory(r *rand.Rand) api.History {
	from := 1 + r.Intn(5)
	h := api.History{Id: 7, Booked: 1 + r.Intn(6), Terms: api.Terms{Span: api.Span{From: from, To: from + 1 + r.Intn(12)}, Risk: home(), Covers: anyCovers(r, 1)}}
	return more(r, h, h.Booked, r.Intn(12))
}

// more is a history with so many changes behind the others, booked on a day and on some behind it.
func more(r *rand.Rand, h api.History, booked, many int) api.History {
	h = clone(h)
	for range many {
		c := anyChange(r, h.Terms.Span, 2+len(h.Changes))
		c.Booked = booked
		h.Changes = append(h.Changes, c)
		booked += r.Intn(3)
	}
	return h
}

func anyChange(r *rand.Rand, s api.Span, number int) api.Change {
	c := api.Change{Day: s.From + r.Intn(s.To-s.From), Kind: 1 + r.Intn(4)}
	switch c.Kind {
	case api.HRisk:
		c.Risk = []api.Risk{home(), motor()}[r.Intn(2)]
	case api.HCovers:
		c.Covers = anyCovers(r, number)
	case api.HCancel:
		c.Way = r.Intn(2)
	}
	return c
}

// anyCovers are covers of some of the perils 0 to 3, with a number in their limits.
func anyCovers(r *rand.Rand, number int) []api.Cover {
	var l []api.Cover
	set := 1 + r.Intn(15)
	for peril := range 4 {
		if set>>peril&1 == 1 {
			l = append(l, cover(peril, 10*number+peril))
		}
	}
	return l
}

// told is the cover of a claim that is right, or why there is none, found change by change, day by day, by the chapters' words.
func told(h api.History, c api.Claim) (api.Cover, api.Errno) {
	switch {
	case c.Booked < c.Loss:
		return api.Cover{}, api.ErrOrder
	case c.Policy != h.Id || h.Booked > c.Booked:
		return api.Cover{}, api.ErrNone
	case c.Loss < h.Terms.Span.From || c.Loss >= h.Terms.Span.To:
		return api.Cover{}, api.ErrCover
	}
	on, covers := true, h.Terms.Covers
	for day := h.Terms.Span.From; day <= c.Loss; day++ {
		for _, x := range h.Changes {
			switch {
			case x.Day != day || x.Booked > c.Booked:
			case x.Kind == api.HCovers:
				covers = x.Covers
			case x.Kind == api.HCancel || x.Kind == api.HRevive:
				on = x.Kind == api.HRevive
			}
		}
	}
	for _, held := range covers {
		if on && held.Peril == c.Peril {
			return held, api.OK
		}
	}
	return api.Cover{}, api.ErrCover
}

// claims are all claims of a policy, of days up to these.
func claims(lastLoss, lastBooked int) []api.Claim {
	var l []api.Claim
	for loss := 1; loss <= lastLoss; loss++ {
		for booked := 1; booked <= lastBooked; booked++ {
			for peril := range 5 {
				l = append(l, of(peril, loss, booked))
			}
		}
	}
	return l
}

func TestP17_2P17_3OfAny(t *testing.T) {
	r := rand.New(rand.NewSource(172))
	seen := map[api.Errno]int{}
	for i := range 150 {
		h := anyHistory(r)
		if i%3 == 1 {
			r.Shuffle(len(h.Changes), func(i, k int) { h.Changes[i], h.Changes[k] = h.Changes[k], h.Changes[i] })
		}
		l := claims(18, 24)
		var want []api.Errno
		for _, c := range l {
			held, code := told(h, c)
			if got, gotCode := notice.Covered(h, plain(), c); got != held || gotCode != code {
				t.Fatalf("Covered of %v by %v: %v, code %d; want %v, code %d", c, h, got, gotCode, held, code)
			}
			want = append(want, code)
			seen[code]++
		}
		checkWhy(t, "any", h, plain(), l, want...)
	}
	for _, code := range []api.Errno{api.OK, api.ErrOrder, api.ErrNone, api.ErrCover} {
		if seen[code] < 1000 {
			t.Errorf("code %d was told %d times only", code, seen[code])
		}
	}
}

// knownCovers are the covers of the Terms, and of the changes that were known on a day.
func knownCovers(h api.History, booked int) []api.Cover {
	l := list.Clone(h.Terms.Covers)
	for _, c := range h.Changes {
		if c.Booked <= booked {
			l = append(l, c.Covers...)
		}
	}
	return l
}

func TestP17_4TheCoverIsAKnownOne(t *testing.T) {
	r := rand.New(rand.NewSource(174))
	found := 0
	for range 5000 {
		h := anyHistory(r)
		loss := 1 + r.Intn(16)
		c := of(r.Intn(4), loss, loss+r.Intn(10))
		held, code := notice.Covered(h, plain(), c)
		if code != api.OK {
			continue
		}
		found++
		if held.Peril != c.Peril || !list.Contains(knownCovers(h, c.Booked), held) {
			t.Errorf("Covered of %v by %v: %v", c, h, held)
		}
	}
	if found < 500 {
		t.Errorf("only %d of them were covered", found)
	}
}

// put is a history into which some changes are put, the first one booked on a day.
func put(t *testing.T, r *rand.Rand, h api.History, booked int) api.History {
	t.Helper()
	for range 1 + r.Intn(4) {
		c := anyChange(r, h.Terms.Span, 2+len(h.Changes))
		c.Booked = booked
		later, code := change.Put(h, c)
		if code != api.OK {
			t.Fatalf("Put of %v to %v: code %d", c, h, code)
		}
		h, booked = later, booked+r.Intn(3)
	}
	return h
}

func TestP17_4WhatIsPutLaterPlaysNoPart(t *testing.T) {
	r := rand.New(rand.NewSource(1744))
	covered, uncovered := 0, 0
	for range 3000 {
		h := anyHistory(r)
		last := h.Booked
		for _, c := range h.Changes {
			last = c.Booked
		}
		later := put(t, r, h, last+1)
		for range 8 {
			// On its last day of booking all that is put is booked behind the claim.
			c := of(r.Intn(4), 1+r.Intn(16), last-r.Intn(3))
			if c.Booked < 1 {
				continue
			}
			held, code := notice.Covered(h, plain(), c)
			if got, gotCode := notice.Covered(later, plain(), c); got != held || gotCode != code {
				t.Errorf("Covered of %v by %v: %v, code %d; by %v: %v, code %d", c, h, held, code, later, got, gotCode)
			}
			switch code {
			case api.OK:
				covered++
			case api.ErrCover:
				uncovered++
			}
		}
	}
	if covered < 500 || uncovered < 500 {
		t.Errorf("only %d were covered, %d not", covered, uncovered)
	}
}

// A claim is told alike by all that was known on its day, whatever the policy became.
func TestP17_4ByWhatWasKnownAlone(t *testing.T) {
	r := rand.New(rand.NewSource(17444))
	for range 3000 {
		h := anyHistory(r)
		c := of(r.Intn(4), 1+r.Intn(16), h.Booked+r.Intn(20))
		then, code := known.At(h, c.Booked)
		if code != api.OK {
			t.Fatalf("At %d of %v: code %d", c.Booked, h, code)
		}
		held, code := notice.Covered(then, plain(), c)
		if got, gotCode := notice.Covered(h, plain(), c); got != held || gotCode != code {
			t.Errorf("Covered of %v by %v: %v, code %d; by what was known: %v, code %d", c, h, got, gotCode, held, code)
		}
	}
}
