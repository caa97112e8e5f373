package known_test

import (
	"math"
	"math/rand"
	list "slices"
	"testing"

	"bordereau/api"
	"bordereau/change"
	"bordereau/known"
	"bordereau/slices"
)

const (
	maxDay   = 292194
	maxMoney = 1000000000000000
	maxRows  = 2000
)

// perils are covers that may be, if the perils may.
func perils(l ...int) []api.Cover {
	var covers []api.Cover
	for _, p := range l {
		covers = append(covers, api.Cover{Peril: p, Limit: 1000, Agg: 1500, Ded: 100, Share: 10000})
	}
	return covers
}

// home is a risk of which a year of a cover costs one in a hundred of 10000.
func home() api.Risk {
	return api.Risk{Kind: api.RHome, Value: 10000}
}

// motor is a risk of which it costs twice as much.
func motor() api.Risk {
	return api.Risk{Kind: api.RMotor, Value: 10000}
}

// far is a risk whose zone plain hasn't.
func far() api.Risk {
	return api.Risk{Kind: api.RHome, Value: 10000, Zone: 1}
}

// rich is a risk of which a year by steep costs more than can be told.
func rich() api.Risk {
	return api.Risk{Kind: api.RHome, Value: maxMoney}
}

// plain is a tariff by which the kinds cost 1, 2, 3 and 4 in a hundred, in one zone.
func plain() api.Tariff {
	return api.Tariff{Versions: []api.Version{{From: 1, Base: [4]int{100, 200, 300, 400}, Zone: []int{10000}, Peril: []int{10000, 10000, 10000, 10000, 10000, 10000, 10000, 10000}}}}
}

// steep is a tariff like plain, by which a year of a home costs ten thousand times its value.
func steep() api.Tariff {
	t := plain()
	t.Versions[0].Base[0] = 100000
	t.Versions[0].Zone[0] = 100000
	t.Versions[0].Peril[1] = 100000
	t.Versions[0].Age = []api.Band{{Upto: 200, Bp: 100000}}
	return t
}

// made is a history of the days 1 to 100, booked on 5, with these changes, right or not.
func made(l ...api.Change) api.History {
	return api.History{Id: 7, Booked: 5, Terms: api.Terms{Span: api.Span{From: 1, To: 101}, Risk: home(), Covers: perils(1)}, Changes: l}
}

func cancel(booked, day int) api.Change {
	return api.Change{Booked: booked, Day: day, Kind: api.HCancel}
}

func revive(booked, day int) api.Change {
	return api.Change{Booked: booked, Day: day, Kind: api.HRevive}
}

func risky(booked, day int, r api.Risk) api.Change {
	return api.Change{Booked: booked, Day: day, Kind: api.HRisk, Risk: r}
}

func covering(booked, day int, l ...int) api.Change {
	return api.Change{Booked: booked, Day: day, Kind: api.HCovers, Covers: perils(l...)}
}

func on(from, to int, r api.Risk, yearly int, l ...int) api.Slice {
	return api.Slice{Span: api.Span{From: from, To: to}, On: true, Risk: r, Covers: perils(l...), Yearly: yearly}
}

func off(from, to int, r api.Risk, l ...int) api.Slice {
	return api.Slice{Span: api.Span{From: from, To: to}, Risk: r, Covers: perils(l...)}
}

func of(bounds ...int) []api.Span {
	var l []api.Span
	for i := 0; i < len(bounds); i += 2 {
		l = append(l, api.Span{From: bounds[i], To: bounds[i+1]})
	}
	return l
}

func sameSlice(a, b api.Slice) bool {
	return a.Span == b.Span && a.On == b.On && a.Risk == b.Risk && list.Equal(a.Covers, b.Covers) && a.Yearly == b.Yearly
}

func sameChange(a, b api.Change) bool {
	return a.Booked == b.Booked && a.Day == b.Day && a.Kind == b.Kind && a.Risk == b.Risk && list.Equal(a.Covers, b.Covers) && a.Way == b.Way
}

func sameHistory(a, b api.History) bool {
	return a.Id == b.Id && a.Booked == b.Booked && a.Terms.Span == b.Terms.Span && a.Terms.Risk == b.Terms.Risk && list.Equal(a.Terms.Covers, b.Terms.Covers) && list.EqualFunc(a.Changes, b.Changes, sameChange)
}

func sameVersion(a, b api.Version) bool {
	return a.From == b.From && a.Base == b.Base && list.Equal(a.Age, b.Age) && list.Equal(a.Zone, b.Zone) && list.Equal(a.Peril, b.Peril) && a.Min == b.Min
}

func sameTariff(a, b api.Tariff) bool {
	return list.EqualFunc(a.Versions, b.Versions, sameVersion)
}

func clone(h api.History) api.History {
	h.Terms.Covers = list.Clone(h.Terms.Covers)
	h.Changes = list.Clone(h.Changes)
	for i, c := range h.Changes {
		h.Changes[i].Covers = list.Clone(c.Covers)
	}
	return h
}

func cloneTariff(t api.Tariff) api.Tariff {
	t.Versions = list.Clone(t.Versions)
	for i, v := range t.Versions {
		t.Versions[i].Age, t.Versions[i].Zone, t.Versions[i].Peril = list.Clone(v.Age), list.Clone(v.Zone), list.Clone(v.Peril)
	}
	return t
}

// with is a history whose changes are those of h at these places, in this order.
func with(h api.History, places ...int) api.History {
	all := clone(h)
	h = clone(h)
	h.Changes = nil
	for _, i := range places {
		h.Changes = append(h.Changes, all.Changes[i])
	}
	return h
}

func checkAt(t *testing.T, name string, h api.History, booked int, want api.History) {
	t.Helper()
	before := clone(h)
	got, code := known.At(h, booked)
	if code != api.OK || !sameHistory(got, want) {
		t.Errorf("%s: At %d of %v: %v, code %d; want %v", name, booked, h, got, code, want)
	}
	if !sameHistory(h, before) {
		t.Errorf("%s: At changed %v to %v", name, before, h)
	}
}

func checkNone(t *testing.T, name string, h api.History, booked int) {
	t.Helper()
	got, code := known.At(h, booked)
	if code != api.ErrNone || !sameHistory(got, api.History{}) {
		t.Errorf("%s: At %d of %v: %v, code %d; want none", name, booked, h, got, code)
	}
}

func checkSlices(t *testing.T, name string, h api.History, tar api.Tariff, booked int, want ...api.Slice) {
	t.Helper()
	beforeH, beforeT := clone(h), cloneTariff(tar)
	got, code := known.Slices(h, tar, booked)
	if code != api.OK || !list.EqualFunc(got, want, sameSlice) {
		t.Errorf("%s: Slices of %d of %v: %v, code %d; want %v", name, booked, h, got, code, want)
	}
	if !sameHistory(h, beforeH) || !sameTariff(tar, beforeT) {
		t.Errorf("%s: Slices changed what it was given", name)
	}
}

func checkSlicesCode(t *testing.T, name string, h api.History, tar api.Tariff, booked int, want api.Errno) {
	t.Helper()
	if got, code := known.Slices(h, tar, booked); code != want || len(got) != 0 {
		t.Errorf("%s: Slices of %d of %v: %v, code %d; want none, code %d", name, booked, h, got, code, want)
	}
}

func checkMoved(t *testing.T, name string, h api.History, tar api.Tariff, a, b int, want []api.Span) {
	t.Helper()
	beforeH, beforeT := clone(h), cloneTariff(tar)
	got, code := known.Moved(h, tar, a, b)
	if code != api.OK || !list.Equal(got, want) {
		t.Errorf("%s: Moved of %d, %d of %v: %v, code %d; want %v", name, a, b, h, got, code, want)
	}
	if !sameHistory(h, beforeH) || !sameTariff(tar, beforeT) {
		t.Errorf("%s: Moved changed what it was given", name)
	}
}

func checkMovedCode(t *testing.T, name string, h api.History, tar api.Tariff, a, b int, want api.Errno) {
	t.Helper()
	if got, code := known.Moved(h, tar, a, b); code != want || len(got) != 0 {
		t.Errorf("%s: Moved of %d, %d of %v: %v, code %d; want none, code %d", name, a, b, h, got, code, want)
	}
}

func TestP13_1At(t *testing.T) {
	h := made(cancel(60, 41), risky(70, 21, motor()), covering(70, 80, 2, 3), revive(71, 61))
	for booked, many := range map[int]int{5: 0, 6: 0, 59: 0, 60: 1, 61: 1, 69: 1, 70: 3, 71: 4, 72: 4, maxDay: 4, maxDay + 1: 4, math.MaxInt: 4} {
		checkAt(t, "by bookings", h, booked, with(h, []int{0, 1, 2, 3}[:many]...))
	}
	for _, booked := range []int{4, 3, 1, 0, -1, math.MinInt} {
		checkNone(t, "ahead of its booking", h, booked)
	}
	bare := made()
	checkAt(t, "no changes", bare, 5, bare)
	checkAt(t, "no changes, later", bare, maxDay, bare)
	checkNone(t, "no changes, ahead", bare, 4)
}

// The day from which a change holds plays no part in when it is known.
func TestP13_1DaysOfChangesPlayNoPart(t *testing.T) {
	h := made(cancel(60, 1), revive(60, 100), cancel(61, 60), revive(61, 61))
	checkAt(t, "60", h, 60, with(h, 0, 1))
	checkAt(t, "61", h, 61, h)
	checkAt(t, "59", h, 59, with(h))
}

// Of a history that change.Put hasn't made no more is asked: what isn't behind the day is told, as it stands.
func TestP13_1AnyHistory(t *testing.T) {
	h := made(cancel(70, 41), revive(60, 41), cancel(3, 9), revive(65, 2), cancel(60, 30))
	for _, x := range []struct {
		booked int
		places []int
	}{{5, []int{2}}, {59, []int{2}}, {60, []int{1, 2, 4}}, {64, []int{1, 2, 4}}, {65, []int{1, 2, 3, 4}}, {69, []int{1, 2, 3, 4}}, {70, []int{0, 1, 2, 3, 4}}} {
		checkAt(t, "in no order", h, x.booked, with(h, x.places...))
	}
	checkNone(t, "a change that is booked ahead of its policy", h, 4)

	odd := made(api.Change{Booked: 0, Day: -3, Kind: 9, Risk: motor(), Covers: perils(5, 5), Way: -1}, api.Change{}, api.Change{Booked: maxDay + 1, Kind: -1}, cancel(math.MaxInt, math.MinInt), cancel(math.MinInt, math.MaxInt))
	odd.Id, odd.Terms = -4, api.Terms{Span: api.Span{From: 9, To: 2}, Risk: api.Risk{Kind: 77, Value: -1}, Covers: perils(3, 1, 99)}
	checkAt(t, "not right", odd, 5, with(odd, 0, 1, 4))
	checkAt(t, "not right, later", odd, maxDay+1, with(odd, 0, 1, 2, 4))
	checkAt(t, "not right, at last", odd, math.MaxInt, odd)
	odd.Booked = math.MinInt
	checkAt(t, "not right, at first", odd, math.MinInt, with(odd, 4))
	checkAt(t, "not right, on -1", odd, -1, with(odd, 4))
	odd.Booked = math.MaxInt
	checkAt(t, "booked at last", odd, math.MaxInt, odd)
	checkNone(t, "booked at last, ahead", odd, math.MaxInt-1)

	checkAt(t, "nothing", api.History{}, 0, api.History{})
	checkNone(t, "nothing, ahead", api.History{}, -1)
}

func TestP13_1ManyChanges(t *testing.T) {
	h := made()
	for i := range 2*maxRows + 1 {
		h.Changes = append(h.Changes, cancel(10+i, 1))
	}
	for _, many := range []int{1, maxRows, maxRows + 1, 2*maxRows + 1} {
		got, code := known.At(h, 9+many)
		if code != api.OK || !list.EqualFunc(got.Changes, h.Changes[:many], sameChange) {
			t.Errorf("%d changes of many: %d, code %d", many, len(got.Changes), code)
		}
	}
}

func TestP13_1Memory(t *testing.T) {
	h := made(covering(60, 41, 2, 3), risky(80, 10, motor()), covering(70, 61, 4), covering(90, 5, 6))
	h.Terms.Covers = append(make([]api.Cover, 0, 9), h.Terms.Covers...)
	h.Changes = append(make([]api.Change, 0, 9), h.Changes...)
	before := clone(h)
	for _, booked := range []int{5, 60, 70, 90} {
		got, code := known.At(h, booked)
		if code != api.OK {
			t.Fatalf("code %d", code)
		}
		got.Terms.Covers[0].Limit = 77
		got.Terms.Covers = append(got.Terms.Covers, api.Cover{Limit: 78})
		for i := range got.Changes {
			for k := range got.Changes[i].Covers {
				got.Changes[i].Covers[k].Limit = 79
			}
			got.Changes[i].Day = 80
		}
		got.Changes = append(got.Changes, cancel(81, 82))
		if !sameHistory(h, before) || h.Changes[:5][4].Kind != 0 || h.Terms.Covers[:2][1].Limit != 0 {
			t.Errorf("At %d shares memory with the history: %v", booked, h)
		}
	}
}

func TestP13_2Slices(t *testing.T) {
	h := made(cancel(60, 41), risky(70, 21, motor()), revive(70, 61), covering(80, 81, 1, 2))
	checkSlices(t, "at first", h, plain(), 5, on(1, 101, home(), 100, 1))
	checkSlices(t, "ahead of the change", h, plain(), 59, on(1, 101, home(), 100, 1))
	checkSlices(t, "cancelled", h, plain(), 60, on(1, 41, home(), 100, 1), off(41, 101, home(), 1))
	checkSlices(t, "still so", h, plain(), 69, on(1, 41, home(), 100, 1), off(41, 101, home(), 1))
	checkSlices(t, "revived", h, plain(), 70, on(1, 21, home(), 100, 1), on(21, 41, motor(), 200, 1), off(41, 61, motor(), 1), on(61, 101, motor(), 200, 1))
	checkSlices(t, "at last", h, plain(), math.MaxInt, on(1, 21, home(), 100, 1), on(21, 41, motor(), 200, 1), off(41, 61, motor(), 1), on(61, 81, motor(), 200, 1), on(81, 101, motor(), 400, 1, 2))
	// The policy's days may lie behind the day of its booking, and ahead of it.
	early := made(cancel(20, 50))
	checkSlices(t, "known ahead of its day", early, plain(), 20, on(1, 50, home(), 100, 1), off(50, 101, home(), 1))
}

func TestP13_2Codes(t *testing.T) {
	wrong := made()
	wrong.Terms.Covers = nil
	for _, booked := range []int{4, 0, math.MinInt} {
		checkSlicesCode(t, "not known", made(), plain(), booked, api.ErrNone)
		checkSlicesCode(t, "not known, told ahead of all else", wrong, plain(), booked, api.ErrNone)
	}
	checkSlicesCode(t, "wrong terms", wrong, plain(), 5, api.ErrArg)
	checkSlicesCode(t, "wrong terms, no tariff", wrong, api.Tariff{}, 5, api.ErrArg)
	checkSlicesCode(t, "no tariff", made(), api.Tariff{}, 5, api.ErrNone)
	checkSlicesCode(t, "nothing", api.History{}, api.Tariff{}, 0, api.ErrArg)
	late := plain()
	late.Versions[0].From = 2
	checkSlicesCode(t, "no version yet", made(), late, 5, api.ErrNone)
	odd := plain()
	odd.Versions[0].Min = -1
	checkSlicesCode(t, "a version that isn't right", made(), odd, 5, api.ErrArg)
	checkSlicesCode(t, "too much", made(risky(5, 1, rich())), steep(), 5, api.ErrOver)
}

// What isn't known yet isn't asked whether it is right.
func TestP13_2WrongChanges(t *testing.T) {
	for name, c := range map[string]api.Change{
		"a kind":                 {Booked: 60, Day: 50, Kind: 5},
		"no kind":                {Booked: 60, Day: 50},
		"a way of none":          {Booked: 60, Day: 50, Kind: api.HRevive, Way: 1},
		"no covers":              {Booked: 60, Day: 50, Kind: api.HCovers},
		"ahead of the span":      cancel(60, 0),
		"behind the span":        cancel(60, 101),
		"a risk that may not be": risky(60, 50, api.Risk{Kind: 4, Value: 1}),
	} {
		h := made(c, cancel(59, 41))
		checkSlices(t, name+", not known", h, plain(), 59, on(1, 41, home(), 100, 1), off(41, 101, home(), 1))
		checkSlicesCode(t, name, h, plain(), 60, api.ErrArg)
		checkSlicesCode(t, name+", no tariff", h, api.Tariff{}, 60, api.ErrArg)
		checkSlicesCode(t, name+", no tariff, not known", h, api.Tariff{}, 59, api.ErrNone)
	}
	h := made(risky(60, 50, far()))
	checkSlices(t, "no such zone, not known", h, plain(), 59, on(1, 101, home(), 100, 1))
	checkSlicesCode(t, "no such zone", h, plain(), 60, api.ErrNone)
	beyond := made(cancel(maxDay+1, 50))
	checkSlices(t, "booked on no day, not known", beyond, plain(), maxDay, on(1, 101, home(), 100, 1))
	checkSlicesCode(t, "booked on no day", beyond, plain(), maxDay+1, api.ErrArg)
}

func TestP13_2ManyChanges(t *testing.T) {
	h := made()
	for i := range maxRows {
		h.Changes = append(h.Changes, covering(60+i/100, 1+i%100, 1, 2))
	}
	checkSlices(t, "many", h, plain(), maxDay, on(1, 101, home(), 200, 1, 2))
	h.Changes = list.Insert(h.Changes, 3, cancel(90, 1))
	checkSlices(t, "one more, not known", h, plain(), 89, on(1, 101, home(), 200, 1, 2))
	checkSlicesCode(t, "one more", h, plain(), 90, api.ErrArg)
}

func TestP13_2Memory(t *testing.T) {
	h := made(covering(60, 41, 2, 3), risky(70, 51, motor()), cancel(80, 61))
	before := clone(h)
	l, code := known.Slices(h, plain(), 80)
	if code != api.OK || len(l) != 4 {
		t.Fatalf("%v, code %d", l, code)
	}
	for i := range l {
		l[i].Covers[0].Limit = 70 + i
	}
	for i, s := range l {
		if s.Covers[0].Limit != 70+i {
			t.Errorf("slice %d shares memory with another one", i)
		}
	}
	if !sameHistory(h, before) {
		t.Errorf("slices share memory with the history")
	}
}

func TestP13_3Moved(t *testing.T) {
	cancelled := made(cancel(60, 41))
	for _, x := range []struct {
		name string
		h    api.History
		a, b int
		want []api.Span
	}{
		{"no changes", made(), 5, maxDay, nil},
		{"cancelled", cancelled, 50, 60, of(41, 101)},
		{"and back", cancelled, 60, 50, of(41, 101)},
		{"not yet", cancelled, 50, 59, nil},
		{"already", cancelled, 60, 70, nil},
		{"of one day", cancelled, 60, 60, nil},
		{"ever", cancelled, 5, math.MaxInt, of(41, 101)},
		{"from the first day on", made(cancel(60, 1)), 59, 60, of(1, 101)},
		{"on the last day", made(cancel(60, 100)), 59, 60, of(100, 101)},
		{"on one day", made(cancel(60, 100), revive(70, 100)), 60, 70, of(100, 101)},
		{"revived", made(cancel(60, 41), revive(70, 61)), 60, 70, of(61, 101)},
		{"between", made(cancel(60, 41), revive(60, 61)), 59, 60, of(41, 61)},
		{"another risk", made(risky(60, 31, motor())), 59, 60, of(31, 101)},
		{"other covers", made(covering(60, 31, 1, 2)), 59, 60, of(31, 101)},
		{"other covers at the same price", made(covering(60, 31, 2)), 59, 60, of(31, 101)},
		{"a cover less", made(covering(60, 31, 1, 2), covering(70, 41, 1)), 60, 70, of(41, 101)},
		{"what holds already", made(risky(60, 31, home()), covering(60, 41, 1), revive(60, 51)), 59, 60, nil},
		{"there and back", made(risky(60, 31, motor()), risky(70, 31, home())), 59, 70, nil},
		{"there, and back", made(risky(60, 31, motor()), risky(70, 31, home())), 60, 70, of(31, 101)},
		{"twice", made(risky(60, 21, motor()), risky(60, 41, home()), risky(60, 61, motor()), risky(60, 81, home())), 59, 60, of(21, 41, 61, 81)},
		{"a day between", made(cancel(60, 21), revive(60, 22), cancel(60, 23), revive(60, 24)), 59, 60, of(21, 22, 23, 24)},
		{"one behind the other", made(risky(60, 21, motor()), covering(60, 41, 2), cancel(60, 61)), 59, 60, of(21, 101)},
		{"in a slice", made(risky(60, 11, motor()), cancel(70, 41), revive(70, 61)), 60, 70, of(41, 61)},
		{"over a bound of slices", made(risky(60, 51, motor()), cancel(70, 41), revive(70, 61)), 60, 70, of(41, 61)},
		{"a bound that goes", made(risky(60, 51, motor()), risky(70, 51, home()), risky(70, 71, motor())), 60, 70, of(51, 71)},
		{"a bound that comes earlier", made(risky(60, 51, motor()), risky(70, 31, motor())), 60, 70, of(31, 51)},
		{"ahead of one that holds", made(cancel(60, 51), cancel(70, 31)), 60, 70, of(31, 51)},
		{"behind one that holds", made(cancel(60, 51), cancel(70, 71)), 60, 70, nil},
		{"a risk while off", made(cancel(60, 21), risky(70, 31, motor())), 60, 70, of(31, 101)},
		{"covers while off", made(cancel(60, 21), revive(60, 61), covering(70, 31, 2), covering(70, 51, 1)), 60, 70, of(31, 51)},
		{"overwritten", made(risky(60, 51, motor()), covering(60, 51, 2), risky(70, 31, api.Risk{Kind: 2, Value: 9})), 60, 70, of(31, 51)},
		{"of another way", made(cancel(60, 41), api.Change{Booked: 70, Day: 41, Kind: api.HCancel, Way: api.GShort}), 60, 70, nil},
		{"in no order", made(cancel(70, 41), revive(60, 61)), 60, 70, of(41, 61)},
		{"in no order, of one day", made(revive(70, 41), cancel(60, 41)), 60, 70, nil},
	} {
		checkMoved(t, x.name, x.h, plain(), x.a, x.b, x.want)
		checkMoved(t, x.name+", and back", x.h, plain(), x.b, x.a, x.want)
	}
}

// A cover is another one, whichever of its numbers is, and so is a risk, though it cost the same.
func TestP13_3AnotherThing(t *testing.T) {
	for i, edit := range []func(c *api.Cover){
		func(c *api.Cover) { c.Peril = 2 },
		func(c *api.Cover) { c.Limit++ },
		func(c *api.Cover) { c.Agg++ },
		func(c *api.Cover) { c.Ded++ },
		func(c *api.Cover) { c.Share-- },
	} {
		other := covering(60, 31, 1)
		edit(&other.Covers[0])
		checkMoved(t, "cover "+string(rune('0'+i)), made(other), plain(), 59, 60, of(31, 101))
		checkMoved(t, "cover while off "+string(rune('0'+i)), made(cancel(5, 1), other), plain(), 59, 60, of(31, 101))
	}
	zones := plain()
	zones.Versions[0].Zone = []int{10000, 10000}
	for i, r := range []api.Risk{{Value: 10001}, {Value: 10000, Age: 1}, {Value: 10000, Zone: 1}, {Kind: 1, Value: 10000}} {
		checkMoved(t, "risk "+string(rune('0'+i)), made(risky(60, 31, r)), zones, 59, 60, of(31, 101))
		checkMoved(t, "risk while off "+string(rune('0'+i)), made(cancel(5, 1), risky(60, 31, r)), zones, 59, 60, of(31, 101))
	}
}

func TestP13_3Codes(t *testing.T) {
	wrong := api.Change{Booked: 60, Day: 50, Kind: 5}
	for _, x := range []struct {
		name string
		h    api.History
		tar  api.Tariff
		a, b int
		want api.Errno
	}{
		{"a isn't known", made(cancel(60, 41)), plain(), 4, 60, api.ErrNone},
		{"b isn't known", made(cancel(60, 41)), plain(), 60, 4, api.ErrNone},
		{"neither is known", made(cancel(60, 41)), plain(), 4, 4, api.ErrNone},
		{"both are of no day", made(cancel(60, 41)), plain(), math.MinInt, 0, api.ErrNone},
		{"a isn't known, b is wrong", made(wrong), plain(), 4, 60, api.ErrNone},
		{"a is wrong, b isn't known", made(wrong), plain(), 60, 4, api.ErrArg},
		{"a is wrong", made(wrong), plain(), 60, 59, api.ErrArg},
		{"b is wrong", made(wrong), plain(), 59, 60, api.ErrArg},
		{"a has no zone, b is wrong", made(risky(50, 41, far()), wrong), plain(), 50, 60, api.ErrNone},
		{"a is wrong, b has no zone", made(risky(50, 41, far()), wrong), plain(), 60, 50, api.ErrArg},
		{"a is too much, b is wrong", made(risky(50, 41, rich()), wrong), steep(), 50, 60, api.ErrOver},
		{"a is wrong, b is too much", made(risky(50, 41, rich()), wrong), steep(), 60, 50, api.ErrArg},
		{"a is too much, b isn't known", made(risky(50, 41, rich())), steep(), 50, 4, api.ErrOver},
		{"a isn't known, b is too much", made(risky(50, 41, rich())), steep(), 4, 50, api.ErrNone},
		{"a is too much, b isn't", made(risky(50, 41, rich()), cancel(60, 41)), steep(), 50, 60, api.ErrOver},
		{"b is too much, a isn't", made(risky(50, 41, rich()), cancel(60, 41)), steep(), 60, 50, api.ErrOver},
		{"too much of one day", made(risky(50, 41, rich())), steep(), 50, 50, api.ErrOver},
		{"no tariff", made(cancel(60, 41)), api.Tariff{}, 59, 60, api.ErrNone},
		{"no tariff, a is wrong", made(wrong), api.Tariff{}, 60, 59, api.ErrArg},
		{"no tariff, b is wrong", made(wrong), api.Tariff{}, 59, 60, api.ErrNone},
		{"nothing", api.History{}, api.Tariff{}, 0, 0, api.ErrArg},
		{"nothing, ahead", api.History{}, api.Tariff{}, -1, 0, api.ErrNone},
	} {
		checkMovedCode(t, x.name, x.h, x.tar, x.a, x.b, x.want)
	}
	// What neither knows isn't asked.
	checkMoved(t, "not known", made(cancel(50, 41), wrong), plain(), 5, 59, of(41, 101))
}

func TestP13_3EachDay(t *testing.T) {
	h := made()
	h.Terms.Span.To = 1101
	var odd []api.Span
	for day := 1; day <= 1000; day += 2 {
		h.Changes = append(h.Changes, cancel(60, day), revive(60, day+1))
		odd = append(odd, api.Span{From: day, To: day + 1})
	}
	checkMoved(t, "each other day", h, plain(), 59, 60, odd)
	for day := 1; day <= 1000; day++ {
		h.Changes = append(h.Changes, risky(70, day, motor()))
	}
	checkMoved(t, "each day", h, plain(), 60, 70, of(1, 1101))
	// Of slices of a day each those that are on and those that are off change places.
	turned := made()
	turned.Terms.Span = api.Span{From: maxDay - 999, To: maxDay + 1}
	for i := range 1000 {
		one, other := cancel(60, maxDay-999+i), revive(70, maxDay-999+i)
		if i%2 == 1 {
			one, other = revive(60, one.Day), cancel(70, one.Day)
		}
		turned.Changes = append(turned.Changes, one, other)
	}
	checkMoved(t, "turned", turned, plain(), 60, 70, of(maxDay-999, maxDay+1))
}

// holds is what holds on a day, beside what it costs.
type holds struct {
	on     bool
	risk   api.Risk
	covers string
}

// holdsOn is what holds on a day by what was known on another one, found change by change, day by day.
func holdsOn(h api.History, booked, day int) holds {
	now := holds{on: true, risk: h.Terms.Risk, covers: told(h.Terms.Covers)}
	for d := h.Terms.Span.From; d <= day; d++ {
		for _, c := range h.Changes {
			switch {
			case c.Day != d || c.Booked > booked:
			case c.Kind == api.HRisk:
				now.risk = c.Risk
			case c.Kind == api.HCovers:
				now.covers = told(c.Covers)
			default:
				now.on = c.Kind == api.HRevive
			}
		}
	}
	return now
}

// told is the perils of covers of perils.
func told(l []api.Cover) string {
	var b []byte
	for _, c := range l {
		b = append(b, byte('0'+c.Peril))
	}
	return string(b)
}

// movedDays are the days on which another thing holds, found day by day, as spans that don't touch.
func movedDays(h api.History, a, b int) []api.Span {
	var l []api.Span
	for day := h.Terms.Span.From; day < h.Terms.Span.To; day++ {
		if holdsOn(h, a, day) == holdsOn(h, b, day) {
			continue
		}
		if last := len(l) - 1; last >= 0 && l[last].To == day {
			l[last].To = day + 1
		} else {
			l = append(l, api.Span{From: day, To: day + 1})
		}
	}
	return l
}

// anyHistory is a history of a few days, with changes whose days and contents are often alike, booked in order.
func anyHistory(r *rand.Rand) api.History {
	from := 1 + r.Intn(5)
	h := api.History{Id: 1, Booked: 1 + r.Intn(3), Terms: api.Terms{Span: api.Span{From: from, To: from + 1 + r.Intn(12)}, Risk: anyRisk(r), Covers: anyCovers(r)}}
	return more(r, h, h.Booked, r.Intn(12))
}

// more is a history with so many changes behind the others, booked on a day and on some behind it.
func more(r *rand.Rand, h api.History, booked, many int) api.History {
	h = clone(h)
	for range many {
		c := anyChange(r, h.Terms.Span)
		c.Booked = booked
		h.Changes = append(h.Changes, c)
		booked += r.Intn(3)
	}
	return h
}

func anyChange(r *rand.Rand, s api.Span) api.Change {
	c := api.Change{Day: s.From + r.Intn(s.To-s.From), Kind: 1 + r.Intn(4)}
	switch c.Kind {
	case api.HRisk:
		c.Risk = anyRisk(r)
	case api.HCovers:
		c.Covers = anyCovers(r)
	case api.HCancel:
		c.Way = r.Intn(2)
	}
	return c
}

func anyRisk(r *rand.Rand) api.Risk {
	return api.Risk{Kind: r.Intn(2), Value: 10000 * (1 + r.Intn(2))}
}

func anyCovers(r *rand.Rand) []api.Cover {
	return [][]api.Cover{perils(1), perils(1, 2), perils(2), perils(0, 1, 2)}[r.Intn(4)]
}

// lastBooked is when a history was last written to.
func lastBooked(h api.History) int {
	if many := len(h.Changes); many > 0 {
		return h.Changes[many-1].Booked
	}
	return h.Booked
}

func moved(t *testing.T, h api.History, a, b int) []api.Span {
	t.Helper()
	l, code := known.Moved(h, plain(), a, b)
	if code != api.OK {
		t.Fatalf("Moved of %d, %d of %v: code %d", a, b, h, code)
	}
	return l
}

func TestP13_1P13_2OfAny(t *testing.T) {
	r := rand.New(rand.NewSource(131))
	for i := range 5000 {
		h := anyHistory(r)
		if i%2 == 1 {
			r.Shuffle(len(h.Changes), func(i, k int) { h.Changes[i], h.Changes[k] = h.Changes[k], h.Changes[i] })
		}
		for booked := h.Booked - 1; booked <= h.Booked+24; booked += 1 + r.Intn(4) {
			if booked < h.Booked {
				checkNone(t, "any", h, booked)
				checkSlicesCode(t, "any", h, plain(), booked, api.ErrNone)
				continue
			}
			var places []int
			for i, c := range h.Changes {
				if c.Booked < booked+1 {
					places = append(places, i)
				}
			}
			then := with(h, places...)
			checkAt(t, "any", h, booked, then)
			want, code := slices.Of(then, plain())
			if code != api.OK {
				t.Fatalf("Of %v: code %d", then, code)
			}
			checkSlices(t, "any", h, plain(), booked, want...)
		}
	}
}

func TestP13_3DayByDay(t *testing.T) {
	r := rand.New(rand.NewSource(133))
	many := 0
	for i := range 20000 {
		h := anyHistory(r)
		if i%2 == 1 {
			r.Shuffle(len(h.Changes), func(i, k int) { h.Changes[i], h.Changes[k] = h.Changes[k], h.Changes[i] })
		}
		a, b := h.Booked+r.Intn(14), h.Booked+r.Intn(14)
		want := movedDays(h, a, b)
		if len(want) > 1 {
			many++
		}
		checkMoved(t, "day by day", h, plain(), a, b, want)
	}
	if many < 500 {
		t.Errorf("only %d of them were of several spans", many)
	}
}

func TestP13_4WhatWasKnownStays(t *testing.T) {
	r := rand.New(rand.NewSource(134))
	for range 3000 {
		h := anyHistory(r)
		last := lastBooked(h)
		later := h
		for range 1 + r.Intn(4) {
			c := anyChange(r, h.Terms.Span)
			c.Booked = lastBooked(later) + r.Intn(3)
			// The first one that is put is booked behind all days that are asked for.
			c.Booked = max(c.Booked, last+1)
			put, code := change.Put(later, c)
			if code != api.OK {
				t.Fatalf("Put of %v to %v: code %d", c, later, code)
			}
			later = put
		}
		for booked := h.Booked; booked <= last; booked++ {
			then, _ := known.At(h, booked)
			checkAt(t, "later", later, booked, then)
			l, _ := known.Slices(h, plain(), booked)
			checkSlices(t, "later", later, plain(), booked, l...)
			checkMoved(t, "later", later, plain(), booked, last, moved(t, h, booked, last))
		}
		checkAt(t, "all", later, last, h)
	}
}

func TestP13_4MovedBack(t *testing.T) {
	r := rand.New(rand.NewSource(1344))
	for range 5000 {
		h := anyHistory(r)
		a, b := h.Booked+r.Intn(14), h.Booked+r.Intn(14)
		there := moved(t, h, a, b)
		if back := moved(t, h, b, a); !list.Equal(there, back) {
			t.Errorf("Moved of %d, %d of %v: %v; back: %v", a, b, h, there, back)
		}
	}
}

func TestP13_4NothingAheadOfTheFirstDay(t *testing.T) {
	r := rand.New(rand.NewSource(13444))
	none := 0
	for range 5000 {
		h := anyHistory(r)
		a := h.Booked + r.Intn(14)
		b := a + r.Intn(6)
		first := math.MaxInt
		for _, c := range h.Changes {
			if c.Booked > a && c.Booked <= b {
				first = min(first, c.Day)
			}
		}
		there := moved(t, h, a, b)
		if first == math.MaxInt {
			none++
		}
		if len(there) > 0 && there[0].From < first {
			t.Errorf("Moved of %d, %d of %v: %v, ahead of %d", a, b, h, there, first)
		}
	}
	if none < 500 {
		t.Errorf("between the days of only %d of them nothing was booked", none)
	}
}

// orders are all orders of so many places.
func orders(many int) [][]int {
	if many == 0 {
		return [][]int{nil}
	}
	var all [][]int
	for _, o := range orders(many - 1) {
		for i := range many {
			all = append(all, list.Insert(list.Clone(o), i, many-1))
		}
	}
	return all
}

// bookedIn is the history of a policy whose changes are put in this order, each booked a day behind the one ahead.
func bookedIn(t *testing.T, h api.History, order []int) api.History {
	t.Helper()
	other, code := change.Bind(h.Id, h.Booked, h.Terms)
	for i, place := range order {
		if code != api.OK {
			break
		}
		c := h.Changes[place]
		c.Booked = h.Booked + 1 + i
		other, code = change.Put(other, c)
	}
	if code != api.OK {
		t.Fatalf("%v in order %v: code %d", h, order, code)
	}
	return other
}

func TestP13_5InWhateverOrder(t *testing.T) {
	r := rand.New(rand.NewSource(135))
	for range 150 {
		h := anyHistory(r)
		h.Terms.Span.To = h.Terms.Span.From + 12
		h.Changes = nil
		for i, day := range r.Perm(12)[:5] {
			c := anyChange(r, h.Terms.Span)
			c.Booked, c.Day = h.Booked+1+i, h.Terms.Span.From+day
			h.Changes = append(h.Changes, c)
		}
		want, code := known.Slices(h, plain(), h.Booked+5)
		if code != api.OK {
			t.Fatalf("%v: code %d", h, code)
		}
		for _, order := range orders(5) {
			other := bookedIn(t, h, order)
			checkSlices(t, "another order", other, plain(), h.Booked+5, want...)
			checkSlices(t, "another order, later", other, plain(), maxDay, want...)
		}
	}
}

// Of one Day the order in which changes were booked does play a part.
func TestP13_5OfOneDay(t *testing.T) {
	checkSlices(t, "off at last", made(revive(60, 41), cancel(61, 41)), plain(), 61, on(1, 41, home(), 100, 1), off(41, 101, home(), 1))
	checkSlices(t, "on at last", made(cancel(60, 41), revive(61, 41)), plain(), 61, on(1, 101, home(), 100, 1))
}
