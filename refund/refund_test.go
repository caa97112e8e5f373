package refund_test

import (
	"math"
	"math/big"
	"math/rand"
	list "slices"
	"testing"

	"bordereau/accrue"
	"bordereau/api"
	"bordereau/change"
	"bordereau/refund"
	"bordereau/slices"
)

const (
	maxDay   = 292194
	maxMoney = 1000000000000000
	maxRows  = 2000
)

func of(from, to int) api.Span { return api.Span{From: from, To: to} }

// plain is a tariff by which a year costs the value of a home, twice that of a motor, three and four times that of the others, in one zone.
func plain() api.Tariff {
	return api.Tariff{Versions: []api.Version{{From: 1, Base: [4]int{10000, 20000, 30000, 40000}, Zone: []int{10000}, Peril: []int{10000, 10000, 10000, 10000, 10000, 10000, 10000, 10000}}}}
}

// steep is a tariff by which a year of a home costs a thousand times its value, one of a motor four thousand times.
func steep() api.Tariff {
	t := plain()
	t.Versions[0].Base = [4]int{25000, 100000, 0, 0}
	t.Versions[0].Age = []api.Band{{Upto: 200, Bp: 100000}}
	t.Versions[0].Zone = []int{100000}
	t.Versions[0].Peril = []int{40000, 40000, 40000, 40000, 40000, 40000, 40000, 40000}
	return t
}

// shares are covers that may be, of the perils from 0 on.
func shares(l ...int) []api.Cover {
	var covers []api.Cover
	for i, bp := range l {
		covers = append(covers, api.Cover{Peril: i, Limit: 1000, Agg: 1500, Ded: 100, Share: bp})
	}
	return covers
}

// holding is a history of a home of some days, of which a year by plain costs so much, booked on 5, with these changes, right or not.
func holding(days api.Span, value int, l ...api.Change) api.History {
	return api.History{Id: 7, Booked: 5, Terms: api.Terms{Span: days, Risk: home(value), Covers: shares(10000)}, Changes: l}
}

// made is the history of the chapter's examples: 100 days, 36500 a year.
func made(l ...api.Change) api.History { return holding(of(1, 101), 36500, l...) }

func home(value int) api.Risk { return api.Risk{Value: value} }

func motor(value int) api.Risk { return api.Risk{Kind: api.RMotor, Value: value} }

// far is a risk whose zone no tariff of these tests has.
func far() api.Risk { return api.Risk{Value: 10000, Zone: 1} }

func byDays(booked, day int) api.Change {
	return api.Change{Booked: booked, Day: day, Kind: api.HCancel, Way: api.GDays}
}

func short(booked, day int) api.Change {
	return api.Change{Booked: booked, Day: day, Kind: api.HCancel, Way: api.GShort}
}

func revive(booked, day int) api.Change {
	return api.Change{Booked: booked, Day: day, Kind: api.HRevive}
}

func risky(booked, day int, r api.Risk) api.Change {
	return api.Change{Booked: booked, Day: day, Kind: api.HRisk, Risk: r}
}

func covered(booked, day int, l ...int) api.Change {
	return api.Change{Booked: booked, Day: day, Kind: api.HCovers, Covers: shares(l...)}
}

func clone(h api.History) api.History {
	h.Terms.Covers = list.Clone(h.Terms.Covers)
	h.Changes = list.Clone(h.Changes)
	for i, c := range h.Changes {
		h.Changes[i].Covers = list.Clone(c.Covers)
	}
	return h
}

func sameChange(a, b api.Change) bool {
	return a.Booked == b.Booked && a.Day == b.Day && a.Kind == b.Kind && a.Risk == b.Risk && list.Equal(a.Covers, b.Covers) && a.Way == b.Way
}

func same(a, b api.History) bool {
	if a.Id != b.Id || a.Booked != b.Booked || a.Terms.Span != b.Terms.Span || a.Terms.Risk != b.Terms.Risk {
		return false
	}
	return list.Equal(a.Terms.Covers, b.Terms.Covers) && list.EqualFunc(a.Changes, b.Changes, sameChange)
}

// costs is what a year costs by plain, of shares and values that leave no rest.
func costs(r api.Risk, l []api.Cover) int {
	sum := 0
	for _, c := range l {
		sum += r.Value * (r.Kind + 1) * c.Share / 10000
	}
	return sum
}

// daily is what a year costs by plain, and whether a policy is on, on each day of its span: day by day, and on each one change by change as they were booked.
func daily(h api.History) (yearly []int, on []bool) {
	r, l, held := h.Terms.Risk, h.Terms.Covers, true
	for day := h.Terms.Span.From; day < h.Terms.Span.To; day++ {
		for _, c := range h.Changes {
			if c.Day != day {
				continue
			}
			switch c.Kind {
			case api.HRisk:
				r = c.Risk
			case api.HCovers:
				l = c.Covers
			case api.HCancel:
				held = false
			case api.HRevive:
				held = true
			}
		}
		cost := 0
		if held {
			cost = costs(r, l)
		}
		yearly, on = append(yearly, cost), append(on, held)
	}
	return yearly, on
}

// cents is the sum of days' costs, by 365, to the nearest; of an odd number of parts none is a half.
func cents(yearly []int) int {
	all := new(big.Int)
	for _, n := range yearly {
		all.Add(all, big.NewInt(int64(n)))
	}
	q, rest := new(big.Int).DivMod(all, big.NewInt(365), new(big.Int))
	if 2*rest.Int64() > 365 {
		return int(q.Int64()) + 1
	}
	return int(q.Int64())
}

// tenth is a tenth, to the nearest, of two to the even one.
func tenth(n int) int {
	q, rest := n/10, n%10
	if rest > 5 || rest == 5 && q%2 == 1 {
		q++
	}
	return q
}

// owes tells by the chapter's words what a right history keeps, and what is due, by plain.
func owes(h api.History) (kept, due int) {
	yearly, _ := daily(h)
	last := -1
	for i, c := range h.Changes {
		if c.Kind != api.HCancel && c.Kind != api.HRevive {
			continue
		}
		if last < 0 || c.Day >= h.Changes[last].Day {
			last = i
		}
	}
	if last >= 0 && h.Changes[last].Kind == api.HCancel && h.Changes[last].Way == api.GShort {
		other := clone(h)
		other.Changes = list.Delete(other.Changes, last, last+1)
		rest, _ := daily(other)
		kept = tenth(cents(rest) - cents(rest[:h.Changes[last].Day-h.Terms.Span.From]))
	}
	return kept, cents(yearly) + kept
}

func check(t *testing.T, name string, h api.History, tar api.Tariff, kept, due int) {
	t.Helper()
	checkKept(t, name, h, tar, kept, api.OK)
	checkDue(t, name, h, tar, due, api.OK)
}

// checkCodes asks Kept and Due for their codes alone; beside one that isn't OK there is nothing.
func checkCodes(t *testing.T, name string, h api.History, tar api.Tariff, kept, due api.Errno) {
	t.Helper()
	if n, code := refund.Kept(h, tar); code != kept || code != api.OK && n != 0 {
		t.Errorf("%s: Kept: %d, code %d; want code %d", name, n, code, kept)
	}
	if n, code := refund.Due(h, tar); code != due || code != api.OK && n != 0 {
		t.Errorf("%s: Due: %d, code %d; want code %d", name, n, code, due)
	}
}

func checkKept(t *testing.T, name string, h api.History, tar api.Tariff, want int, wantCode api.Errno) {
	t.Helper()
	before := clone(h)
	if n, code := refund.Kept(h, tar); n != want || code != wantCode {
		t.Errorf("%s: Kept: %d, code %d; want %d, code %d", name, n, code, want, wantCode)
	}
	if !same(h, before) {
		t.Errorf("%s: Kept changed %v to %v", name, before, h)
	}
}

func checkDue(t *testing.T, name string, h api.History, tar api.Tariff, want int, wantCode api.Errno) {
	t.Helper()
	before := clone(h)
	if n, code := refund.Due(h, tar); n != want || code != wantCode {
		t.Errorf("%s: Due: %d, code %d; want %d, code %d", name, n, code, want, wantCode)
	}
	if !same(h, before) {
		t.Errorf("%s: Due changed %v to %v", name, before, h)
	}
}

func checkGiven(t *testing.T, name string, h api.History, tar api.Tariff, c api.Change, want int, wantCode api.Errno) {
	t.Helper()
	before, put := clone(h), c
	put.Covers = list.Clone(c.Covers)
	if n, code := refund.Given(h, tar, c); n != want || code != wantCode {
		t.Errorf("%s: Given: %d, code %d; want %d, code %d", name, n, code, want, wantCode)
	}
	if !same(h, before) || !sameChange(c, put) {
		t.Errorf("%s: Given changed %v and %v to %v and %v", name, before, put, h, c)
	}
}

func due(t *testing.T, h api.History) int {
	t.Helper()
	n, code := refund.Due(h, plain())
	if code != api.OK {
		t.Fatalf("Due of %v: code %d", h, code)
	}
	return n
}

func given(t *testing.T, h api.History, c api.Change) int {
	t.Helper()
	n, code := refund.Given(h, plain(), c)
	if code != api.OK {
		t.Fatalf("Given of %v and %v: code %d", h, c, code)
	}
	return n
}

func put(t *testing.T, h api.History, c api.Change) api.History {
	t.Helper()
	next, code := change.Put(h, c)
	if code != api.OK {
		t.Fatalf("Put of %v: code %d", c, code)
	}
	return next
}

// anyRisk is a risk of which a year by plain leaves no rest.
func anyRisk(r *rand.Rand) api.Risk {
	return api.Risk{Kind: r.Intn(4), Value: 10000 * (1 + r.Intn(50))}
}

func anyShares(r *rand.Rand) []int {
	l := make([]int, 1+r.Intn(3))
	for i := range l {
		l[i] = 1 + r.Intn(10000)
	}
	return l
}

// anyChange is a change of a day of the span, booked on a day or behind it.
func anyChange(r *rand.Rand, h api.History, turns bool) api.Change {
	booked := h.Booked
	if many := len(h.Changes); many > 0 {
		booked = h.Changes[many-1].Booked
	}
	booked += r.Intn(20)
	day := h.Terms.Span.From + r.Intn(h.Terms.Span.To-h.Terms.Span.From)
	kinds := 2
	if turns {
		kinds = 7
	}
	switch r.Intn(kinds) {
	case 0:
		return risky(booked, day, anyRisk(r))
	case 1:
		return covered(booked, day, anyShares(r)...)
	case 2:
		return byDays(booked, day)
	case 3:
		return revive(booked, day)
	}
	return short(booked, day)
}

// anyHistory is a history of few days, so that many changes hold from one day on.
func anyHistory(r *rand.Rand, turns bool) api.History {
	from := []int{1, 2, 1095, 150000, maxDay - 40}[r.Intn(5)]
	h := api.History{Id: 1 + r.Intn(9), Booked: 1 + r.Intn(1000), Terms: api.Terms{Span: of(from, from+1+r.Intn(41)), Risk: anyRisk(r), Covers: shares(anyShares(r)...)}}
	for range r.Intn(9) {
		h.Changes = append(h.Changes, anyChange(r, h, turns))
	}
	return h
}

func TestP15_1Kept(t *testing.T) {
	for name, x := range map[string]struct {
		l         []api.Change
		kept, due int
	}{
		"no changes":                    {nil, 0, 10000},
		"by days":                       {[]api.Change{byDays(9, 41)}, 0, 4000},
		"short":                         {[]api.Change{short(9, 41)}, 600, 4600},
		"short, from the first day on":  {[]api.Change{short(9, 1)}, 1000, 1000},
		"short, of the last day":        {[]api.Change{short(9, 100)}, 10, 9910},
		"short, booked behind the span": {[]api.Change{short(900, 41)}, 600, 4600},
		"revived only":                  {[]api.Change{revive(9, 41)}, 0, 10000},

		"short, then revived":                        {[]api.Change{short(9, 41), revive(9, 61)}, 0, 8000},
		"revived ahead of it, booked behind it":      {[]api.Change{short(9, 41), revive(9, 21)}, 600, 4600},
		"revived behind it, booked ahead of it":      {[]api.Change{revive(9, 61), short(9, 41)}, 0, 8000},
		"revived on the day, booked behind it":       {[]api.Change{short(9, 41), revive(9, 41)}, 0, 10000},
		"revived on the day, booked ahead of it":     {[]api.Change{revive(9, 41), short(9, 41)}, 600, 4600},
		"by days, revived, short":                    {[]api.Change{byDays(9, 21), revive(9, 31), short(9, 51)}, 500, 4500},
		"short, revived, by days":                    {[]api.Change{short(9, 21), revive(9, 31), byDays(9, 51)}, 0, 4000},
		"short, revived, short":                      {[]api.Change{short(9, 21), revive(9, 31), short(9, 51)}, 500, 4500},
		"short, revived, short, booked from behind":  {[]api.Change{short(9, 51), revive(9, 31), short(9, 21)}, 500, 4500},
		"short twice on a day":                       {[]api.Change{short(9, 41), short(9, 41)}, 0, 4000},
		"short twice":                                {[]api.Change{short(9, 41), short(9, 61)}, 0, 4000},
		"by days, then short, from the same day on":  {[]api.Change{byDays(9, 41), short(9, 41)}, 0, 4000},
		"short, then by days, from the same day on":  {[]api.Change{short(9, 41), byDays(9, 41)}, 0, 4000},
		"by days, then short of a day behind that":   {[]api.Change{byDays(9, 21), short(9, 41)}, 0, 2000},
		"by days, then short of a day ahead of that": {[]api.Change{byDays(9, 41), short(9, 21)}, 0, 2000},
		"short, then by days of a day behind that":   {[]api.Change{short(9, 21), byDays(9, 41)}, 0, 2000},
		"short, then by days of a day ahead of that": {[]api.Change{short(9, 41), byDays(9, 21)}, 0, 2000},
		"revived when on, then short":                {[]api.Change{revive(9, 31), short(9, 51)}, 500, 5500},
		"short; revived from the first day on":       {[]api.Change{short(9, 41), revive(9, 1)}, 600, 4600},
		"short from the first day on; by days on 41": {[]api.Change{short(9, 1), byDays(9, 41)}, 0, 0},

		"another risk ahead of it":        {[]api.Change{risky(9, 21, motor(36500)), short(9, 41)}, 1200, 7200},
		"another risk on the day":         {[]api.Change{risky(9, 41, motor(36500)), short(9, 41)}, 1200, 5200},
		"another risk behind it":          {[]api.Change{short(9, 41), risky(9, 51, motor(36500))}, 1100, 5100},
		"another risk of the day, behind": {[]api.Change{short(9, 41), risky(9, 41, motor(36500))}, 1200, 5200},
		"other covers behind it":          {[]api.Change{short(9, 41), covered(9, 51, 5000)}, 350, 4350},
		"other covers ahead of it":        {[]api.Change{covered(9, 11, 10000, 10000), short(9, 41)}, 1200, 8200},
		"both, on its last day":           {[]api.Change{covered(9, 100, 5000), short(9, 41), risky(10, 100, motor(36500))}, 600, 4600},
		"another risk, never cancelled":   {[]api.Change{risky(9, 51, motor(36500))}, 0, 15000},
		"another risk, cancelled by days": {[]api.Change{risky(9, 51, motor(36500)), byDays(9, 41)}, 0, 4000},
	} {
		check(t, name, made(x.l...), plain(), x.kept, x.due)
	}
}

// What is kept is a tenth of whole cents, to the nearest, of two to the even one; and these cents are those of two sums, of which each was rounded.
func TestP15_1Rounding(t *testing.T) {
	for n, want := range map[int]int{1: 0, 4: 0, 5: 0, 6: 1, 14: 1, 15: 2, 16: 2, 24: 2, 25: 2, 26: 3, 35: 4, 45: 4, 55: 6, 95: 10, 105: 10, 115: 12} {
		check(t, "cents", holding(of(3, 5), 365*n, short(9, 4)), plain(), want, n+want)
		check(t, "all cents", holding(of(3, 4), 365*n, short(9, 3)), plain(), want, want)
	}
	for _, value := range []int{1, 150, 182, 183, 1825, 2000, 3333, 5475, 123457} {
		for day := 1; day < 60; day++ {
			yearly := list.Repeat([]int{value}, 59)
			kept := tenth(cents(yearly) - cents(yearly[:day-1]))
			check(t, "day by day", holding(of(1, 60), value, short(9, day)), plain(), kept, cents(yearly[:day-1])+kept)
		}
	}
	// Some days tell what two rounded sums differ by from the days that are left, rounded by themselves.
	differs := 0
	for day := 1; day < 200; day++ {
		yearly := list.Repeat([]int{2000}, 200)
		left := cents(yearly) - cents(yearly[:day-1])
		if alone := cents(yearly[day-1:]); tenth(alone) != tenth(left) {
			differs++
		}
		check(t, "2000 a year", holding(of(1, 201), 2000, short(9, day)), plain(), tenth(left), cents(yearly[:day-1])+tenth(left))
	}
	if differs == 0 {
		t.Error("no day tells two rounded sums from one")
	}
}

func TestP15_1Calendar(t *testing.T) {
	for _, days := range []api.Span{of(1, 2), of(1, 1101), of(maxDay, maxDay+1), of(maxDay-1099, maxDay+1), of(maxDay-1, maxDay+1)} {
		many := days.To - days.From
		for _, day := range []int{days.From, days.To - 1} {
			left := days.To - day
			check(t, "short", holding(days, 3650, short(9, day)), plain(), left, 10*(many-left)+left)
			check(t, "by days", holding(days, 3650, byDays(9, day)), plain(), 0, 10*(many-left))
		}
		check(t, "never cancelled", holding(days, 3650), plain(), 0, 10*many)
	}
}

// The tariff's version is that of the first day, whenever the policy is cancelled.
func TestP15_1Versions(t *testing.T) {
	tar := plain()
	second := plain().Versions[0]
	second.From, second.Base[0], second.Min = 30, 90000, 500
	tar.Versions = append(tar.Versions, second)
	check(t, "the first one", made(short(9, 41)), tar, 600, 4600)
	check(t, "the second one", holding(of(30, 130), 36500, short(40, 70)), tar, 5400, 41400)
}

func TestP15_1Codes(t *testing.T) {
	wrong := made()
	wrong.Terms.Covers = nil
	checkCodes(t, "no policy", api.History{}, api.Tariff{}, api.ErrArg, api.ErrArg)
	checkCodes(t, "no covers", wrong, plain(), api.ErrArg, api.ErrArg)
	checkCodes(t, "no covers, no tariff", wrong, api.Tariff{}, api.ErrArg, api.ErrArg)
	for name, l := range map[string][]api.Change{
		"the zero change":          {{}},
		"a day ahead of the span":  {short(9, 0)},
		"a day behind the span":    {short(9, 101)},
		"another way":              {{Booked: 9, Day: 41, Kind: api.HCancel, Way: 2}},
		"revived short":            {{Booked: 9, Day: 41, Kind: api.HRevive, Way: api.GShort}},
		"a risk that may not be":   {short(9, 41), risky(9, 41, home(0))},
		"no covers":                {short(9, 41), covered(9, 41)},
		"another kind":             {{Booked: 9, Day: 41, Kind: 5}},
		"wrong behind what is not": {short(9, 41), short(9, 42), {Booked: 9, Day: 43}},
	} {
		checkCodes(t, name, made(l...), plain(), api.ErrArg, api.ErrArg)
		checkCodes(t, name+", no tariff", made(l...), api.Tariff{}, api.ErrArg, api.ErrArg)
	}
	later := plain()
	later.Versions[0].From = 2
	for name, l := range map[string][]api.Change{"never cancelled": nil, "by days": {byDays(9, 41)}, "short": {short(9, 41)}, "from the first day on": {short(9, 1)}, "revived": {short(9, 41), revive(9, 51)}} {
		checkCodes(t, name+", no tariff", made(l...), api.Tariff{}, api.ErrNone, api.ErrNone)
		checkCodes(t, name+", no tariff yet", made(l...), later, api.ErrNone, api.ErrNone)
	}
	nowhere := made()
	nowhere.Terms.Risk = far()
	checkCodes(t, "no such zone", nowhere, plain(), api.ErrNone, api.ErrNone)
	spare := steep()
	spare.Versions[0].Peril[0] = 100000
	checkCodes(t, "a year that costs too much", holding(of(1, 101), maxMoney, risky(8, 1, motor(maxMoney)), short(9, 41)), spare, api.ErrOver, api.ErrOver)
}

// Such codes as a history has only without its last turn: while it is off, nobody asks what it would cost.
func TestP15_1CodesWithoutTheTurn(t *testing.T) {
	for name, x := range map[string]struct {
		l    []api.Change
		code api.Errno
		due  int
	}{
		"short, far behind it":           {[]api.Change{short(9, 41), risky(9, 51, far())}, api.ErrNone, 0},
		"short, far on the day":          {[]api.Change{short(9, 41), risky(9, 41, far())}, api.ErrNone, 0},
		"far, short on the day":          {[]api.Change{risky(9, 41, far()), short(9, 41)}, api.ErrNone, 0},
		"short, far on the last day":     {[]api.Change{short(9, 41), risky(9, 100, far())}, api.ErrNone, 0},
		"short, far and back on a day":   {[]api.Change{short(9, 41), risky(9, 51, far()), risky(9, 51, home(36500))}, api.OK, 4600},
		"by days, far behind it":         {[]api.Change{byDays(9, 41), risky(9, 51, far())}, api.OK, 4000},
		"off by days ahead of it":        {[]api.Change{byDays(9, 21), short(9, 41), risky(9, 51, far())}, api.OK, 2000},
		"far while off, revived in time": {[]api.Change{short(9, 41), risky(9, 51, far()), risky(9, 61, home(36500)), revive(9, 71)}, api.OK, 7000},
	} {
		h := made(x.l...)
		if x.code == api.OK {
			kept, want := owes(h)
			if want != x.due {
				t.Fatalf("%s: %d is due by the words", name, want)
			}
			check(t, name, h, plain(), kept, want)
			continue
		}
		checkCodes(t, name, h, plain(), x.code, x.code)
	}
}

func TestP15_1Over(t *testing.T) {
	// A day costs 10^18 a year, and 4 times as much of another risk: four days, or one, are all that may be.
	for name, x := range map[string]struct {
		h         api.History
		kept, due api.Errno
	}{
		"five days":                           {holding(of(1, 6), maxMoney), api.OK, api.ErrOver},
		"five days, by days":                  {holding(of(1, 7), maxMoney, byDays(9, 6)), api.OK, api.ErrOver},
		"five days, but off":                  {holding(of(1, 7), maxMoney, byDays(9, 5)), api.OK, api.OK},
		"five days without the turn":          {holding(of(1, 6), maxMoney, short(9, 5)), api.ErrOver, api.ErrOver},
		"five days without the turn at once":  {holding(of(1, 6), maxMoney, short(9, 1)), api.ErrOver, api.ErrOver},
		"four days without the turn":          {holding(of(1, 5), maxMoney, short(9, 3)), api.OK, api.OK},
		"much ahead, and little behind":       {holding(of(1, 9), maxMoney, risky(9, 6, home(1)), short(9, 7)), api.ErrOver, api.ErrOver},
		"much and a cent without the turn":    {holding(of(1, 6), maxMoney, risky(9, 5, api.Risk{Value: 1}), short(9, 5)), api.ErrOver, api.ErrOver},
		"much, nothing without the turn":      {holding(of(1, 6), maxMoney, risky(9, 5, api.Risk{Kind: 2, Value: 1}), short(9, 5)), api.OK, api.OK},
		"too much, for nothing from there on": {holding(of(1, 9), maxMoney, risky(9, 6, api.Risk{Kind: 2, Value: 1}), short(9, 7)), api.ErrOver, api.ErrOver},
		"far is told ahead of too much":       {holding(of(1, 9), maxMoney, short(9, 7), risky(9, 8, far())), api.ErrNone, api.ErrNone},
		"far while off is told of none":       {holding(of(1, 9), maxMoney, byDays(9, 7), risky(9, 8, far())), api.OK, api.ErrOver},
	} {
		checkCodes(t, name, x.h, steep(), x.kept, x.due)
	}
}

// All that may be: 4 times 10^18, by 365, is 10958904109589041.
func TestP15_2Great(t *testing.T) {
	h := holding(of(8, 9), maxMoney)
	h.Terms.Risk = motor(maxMoney)
	check(t, "a day", h, steep(), 0, 10958904109589041)
	checkGiven(t, "a day, by days", h, steep(), byDays(9, 8), 10958904109589041, api.OK)
	checkGiven(t, "a day, short", h, steep(), short(9, 8), 10958904109589041-1095890410958904, api.OK)
	h.Changes = []api.Change{short(9, 8)}
	check(t, "a day, short", h, steep(), 1095890410958904, 1095890410958904)
	four := holding(of(8, 12), maxMoney)
	check(t, "four days", four, steep(), 0, 10958904109589041)
	// Up to the last day 8219178082191781 are earned, so that it has 2739726027397260, and a tenth of it is 273972602739726.
	four.Changes = []api.Change{short(9, 11)}
	check(t, "three days, and a tenth of the last one", four, steep(), 273972602739726, 8493150684931507)
}

func TestP15_2OfAny(t *testing.T) {
	r := rand.New(rand.NewSource(152))
	seen := 0
	for range 6000 {
		h := anyHistory(r, true)
		// Of what it kept Due tells, whether or not the changes could have been booked so.
		r.Shuffle(len(h.Changes), func(i, j int) { h.Changes[i], h.Changes[j] = h.Changes[j], h.Changes[i] })
		kept, all := owes(h)
		if kept > 0 {
			seen++
		}
		check(t, "any", h, plain(), kept, all)
	}
	if seen < 800 {
		t.Errorf("only %d kept something", seen)
	}
}

func TestP15_2Many(t *testing.T) {
	full := holding(of(1, 1101), 36500)
	for i := range maxRows - 1 {
		full.Changes = append(full.Changes, revive(9, 1+i%1000))
	}
	full.Changes = append(full.Changes, short(9, 1051))
	check(t, "all that may be", full, plain(), 500, 105500)
	checkGiven(t, "no more", full, plain(), revive(9, 1051), 0, api.ErrBound)
	checkGiven(t, "no more, booked too early", full, plain(), revive(8, 1051), 0, api.ErrOrder)
	checkGiven(t, "no more, of no day", full, plain(), revive(9, 1101), 0, api.ErrArg)
	full.Changes[0] = byDays(9, 1001)
	check(t, "the first one counts too", full, plain(), 0, 100000)
	full.Changes = append(full.Changes, revive(9, 1))
	checkCodes(t, "one too many", full, plain(), api.ErrArg, api.ErrArg)
	checkGiven(t, "one too many", full, plain(), revive(9, 1), 0, api.ErrBound)
}

func TestP15_3Given(t *testing.T) {
	for name, x := range map[string]struct {
		l    []api.Change
		c    api.Change
		want int
	}{
		"by days":                        {nil, byDays(9, 41), 6000},
		"short":                          {nil, short(9, 41), 5400},
		"by days, from the first day on": {nil, byDays(9, 1), 10000},
		"short, from the first day on":   {nil, short(9, 1), 9000},
		"by days, the last day":          {nil, byDays(9, 100), 100},
		"short, the last day":            {nil, short(9, 100), 90},
		"booked with the policy":         {nil, byDays(5, 41), 6000},
		"booked behind the span":         {nil, byDays(maxDay, 41), 6000},
		"revived when on":                {nil, revive(9, 41), 0},
		"another risk":                   {nil, risky(9, 51, motor(36500)), -5000},
		"a lesser risk":                  {nil, risky(9, 51, home(18250)), 2500},
		"the same risk":                  {nil, risky(9, 51, home(36500)), 0},
		"more covers":                    {nil, covered(9, 91, 10000, 5000), -500},
		"revived":                        {[]api.Change{byDays(9, 41)}, revive(9, 61), -4000},
		"revived, what was short":        {[]api.Change{short(9, 41)}, revive(9, 61), -3400},
		"revived on the day":             {[]api.Change{short(9, 41)}, revive(9, 41), -5400},
		"revived ahead of it":            {[]api.Change{short(9, 41)}, revive(9, 21), 0},
		"by days behind what was short":  {[]api.Change{short(9, 41)}, byDays(9, 61), 600},
		"by days on the day":             {[]api.Change{short(9, 41)}, byDays(9, 41), 600},
		"by days ahead of what is short": {[]api.Change{short(9, 41)}, byDays(9, 21), 2600},
		"short ahead of by days":         {[]api.Change{byDays(9, 41)}, short(9, 21), 2000},
		"a risk while off":               {[]api.Change{byDays(9, 41)}, risky(9, 51, motor(36500)), 0},
		"a risk while off, short":        {[]api.Change{short(9, 41)}, risky(9, 51, motor(36500)), -500},
		"a far risk while off":           {[]api.Change{byDays(9, 41)}, risky(9, 51, far()), 0},
		"booked with the last change":    {[]api.Change{byDays(9, 61)}, byDays(9, 41), 2000},
	} {
		checkGiven(t, name, made(x.l...), plain(), x.c, x.want, api.OK)
	}
}

func TestP15_3Codes(t *testing.T) {
	wrong := made()
	wrong.Terms.Covers = nil
	rich := holding(of(1, 6), maxMoney)
	for name, x := range map[string]struct {
		h    api.History
		tar  api.Tariff
		c    api.Change
		code api.Errno
	}{
		"no change":                          {made(), plain(), api.Change{}, api.ErrArg},
		"of no day of the span":              {made(), plain(), byDays(9, 101), api.ErrArg},
		"of no day":                          {made(), plain(), byDays(9, 0), api.ErrArg},
		"booked on no day":                   {made(), plain(), byDays(0, 41), api.ErrArg},
		"of no kind":                         {made(), plain(), api.Change{Booked: 9, Day: 41, Kind: 5}, api.ErrArg},
		"of no way":                          {made(), plain(), api.Change{Booked: 9, Day: 41, Kind: api.HCancel, Way: 2}, api.ErrArg},
		"booked ahead of the policy":         {made(), plain(), byDays(4, 41), api.ErrOrder},
		"booked ahead of the last change":    {made(revive(9, 41)), plain(), byDays(8, 41), api.ErrOrder},
		"no change, no tariff":               {made(), api.Tariff{}, api.Change{}, api.ErrArg},
		"booked ahead, no tariff":            {made(), api.Tariff{}, byDays(4, 41), api.ErrOrder},
		"booked ahead, no covers":            {wrong, plain(), byDays(4, 41), api.ErrOrder},
		"no policy":                          {api.History{}, plain(), byDays(9, 41), api.ErrArg},
		"no covers":                          {wrong, plain(), byDays(9, 41), api.ErrArg},
		"a history that is not right":        {made(short(9, 101)), plain(), byDays(9, 41), api.ErrArg},
		"no tariff":                          {made(), api.Tariff{}, byDays(9, 41), api.ErrNone},
		"another zone":                       {made(), plain(), risky(9, 51, far()), api.ErrNone},
		"another zone without the turn":      {made(short(9, 41)), plain(), risky(9, 51, far()), api.ErrNone},
		"short, ahead of another zone":       {made(byDays(9, 41), risky(9, 51, far())), plain(), byDays(9, 31), api.OK},
		"short, of what was far and off":     {made(byDays(9, 41), risky(9, 51, far())), plain(), short(9, 41), api.OK},
		"revived, with another zone":         {made(byDays(9, 41), risky(9, 51, far())), plain(), revive(9, 61), api.ErrNone},
		"out of another zone":                {made(risky(9, 51, far())), plain(), byDays(9, 51), api.ErrNone},
		"too much, and less with it":         {rich, steep(), byDays(9, 1), api.ErrOver},
		"too much, and another zone with it": {rich, steep(), risky(9, 2, far()), api.ErrOver},
		"another zone, and too much with it": {made(risky(9, 51, far())), steep(), risky(9, 41, motor(maxMoney)), api.ErrNone},
		"too much with it":                   {holding(of(1, 6), 1), steep(), risky(9, 1, home(maxMoney)), api.ErrOver},
		"too much without the turn":          {holding(of(1, 6), 1, short(9, 1)), steep(), risky(9, 1, home(maxMoney)), api.ErrOver},
	} {
		if n, code := refund.Given(x.h, x.tar, x.c); code != x.code || code != api.OK && n != 0 {
			t.Errorf("%s: %d, code %d; want code %d", name, n, code, x.code)
		}
	}
}

func TestP15_3OfAny(t *testing.T) {
	r := rand.New(rand.NewSource(153))
	for range 4000 {
		h := anyHistory(r, true)
		c := anyChange(r, h, true)
		_, ahead := owes(h)
		next := clone(h)
		next.Changes = append(next.Changes, c)
		_, behind := owes(next)
		checkGiven(t, "any", h, plain(), c, ahead-behind, api.OK)
	}
}

// What is handed in isn't written into, nor what lies behind its lists, and what is asked twice is answered alike.
func TestP15_3Memory(t *testing.T) {
	l := []api.Change{risky(9, 31, motor(36500)), short(9, 41), covered(9, 51, 5000), revive(9, 99)}
	before := clone(made(l...))
	for many := range len(l) + 1 {
		h := made(l[:many]...)
		kept, all := owes(h)
		for _, c := range []api.Change{byDays(9, 1), short(9, 41), covered(9, 1, 10000), revive(9, 61)} {
			next := clone(h)
			next.Changes = append(next.Changes, c)
			_, rest := owes(next)
			for range 2 {
				check(t, "again", h, plain(), kept, all)
				checkGiven(t, "again", h, plain(), c, all-rest, api.OK)
			}
		}
		if !same(made(l...), before) {
			t.Fatalf("asked of the first %d: %v became %v", many, before.Changes, l)
		}
	}
}

// Numbers that no day has, and the greatest and least of all others, end in a code.
func TestP15_3AnyNumbers(t *testing.T) {
	odd := []int{math.MinInt, -1 << 32, -1, 0, 1, 2, 41, maxDay, maxDay + 1, 1<<32 + 1, math.MaxInt}
	r := rand.New(rand.NewSource(1533))
	pick := func() int { return odd[r.Intn(len(odd))] }
	for range 20000 {
		c := api.Change{Booked: pick(), Day: pick(), Kind: pick(), Way: pick()}
		h := api.History{Id: pick(), Booked: pick(), Terms: api.Terms{Span: of(pick(), pick()), Risk: home(36500), Covers: shares(10000)}, Changes: []api.Change{short(9, pick())}}
		for name, ask := range map[string]func() (int, api.Errno){
			"Kept":  func() (int, api.Errno) { return refund.Kept(h, plain()) },
			"Due":   func() (int, api.Errno) { return refund.Due(h, plain()) },
			"Given": func() (int, api.Errno) { return refund.Given(h, plain(), c) },
		} {
			if n, code := ask(); n != 0 && code != api.OK {
				t.Errorf("%s of %v and %v: %d, code %d", name, h, c, n, code)
			}
		}
	}
}

func TestP15_4WhatWouldBeEarned(t *testing.T) {
	r := rand.New(rand.NewSource(154))
	for range 300 {
		h := anyHistory(r, false)
		l, code := slices.Of(h, plain())
		if code != api.OK {
			t.Fatalf("Of %v: code %d", h, code)
		}
		booked := h.Booked + 1000
		for day := h.Terms.Span.From; day < h.Terms.Span.To; day++ {
			left, code := accrue.Between(l, of(day, h.Terms.Span.To))
			if code != api.OK {
				t.Fatalf("Between of %v: code %d", l, code)
			}
			if n := given(t, h, byDays(booked, day)); n != left {
				t.Errorf("%v, by days from %d on: %d; would be earned %d", h, day, n, left)
			}
			if n := given(t, h, short(booked, day)); n != left-tenth(left) {
				t.Errorf("%v, short from %d on: %d; would be earned %d", h, day, n, left)
			}
		}
	}
}

func TestP15_4CancelledAndRevived(t *testing.T) {
	r := rand.New(rand.NewSource(1541))
	tried := 0
	for range 1500 {
		h := anyHistory(r, true)
		_, on := daily(h)
		all := due(t, h)
		booked := h.Booked + 1000
		for i, held := range on {
			if !held {
				continue
			}
			tried++
			day := h.Terms.Span.From + i
			for _, c := range []api.Change{byDays(booked, day), short(booked, day)} {
				off := put(t, h, c)
				back := put(t, off, revive(booked, day))
				if n := due(t, back); n != all {
					t.Errorf("%v, cancelled and revived on %d: %d; owed %d", h, day, n, all)
				}
				if n := given(t, h, c) + given(t, off, revive(booked, day)); n != 0 {
					t.Errorf("%v, cancelled and revived on %d: %d given", h, day, n)
				}
			}
		}
	}
	if tried < 5000 {
		t.Errorf("only %d days on which a policy is on", tried)
	}
}

func TestP15_4OneBehindTheOther(t *testing.T) {
	r := rand.New(rand.NewSource(1542))
	for range 1500 {
		h := anyHistory(r, true)
		first := due(t, h)
		sum := 0
		for range 1 + r.Intn(8) {
			c := anyChange(r, h, true)
			sum += given(t, h, c)
			h = put(t, h, c)
			if n := due(t, h); first-n != sum {
				t.Errorf("%v: %d given one behind the other; %d by all", h, sum, first-n)
			}
		}
	}
}
