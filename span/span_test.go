package span_test

import (
	"math"
	"math/rand"
	"slices"
	"testing"

	"bordereau/api"
	"bordereau/span"
)

func of(from, to int) api.Span { return api.Span{From: from, To: to} }

// has tells by the words of P3.1 alone whether a span has a day.
func has(s api.Span, day int) bool {
	if s.From < 1 || s.From > s.To || s.To > api.MaxDay+1 {
		return false
	}
	return s.From <= day && day < s.To
}

func anyHas(l []api.Span, day int) bool {
	return slices.ContainsFunc(l, func(s api.Span) bool { return has(s, day) })
}

// bounds are days and no days round both ends of the calendar, and the greatest and least numbers there are.
func bounds() []int {
	return []int{math.MinInt, math.MinInt + 1, -api.MaxDay, -1, 0, 1, 2, 3, 4, 7, 150000, api.MaxDay - 2, api.MaxDay - 1, api.MaxDay, api.MaxDay + 1, api.MaxDay + 2, 1 << 32, 1<<32 + 3, math.MaxInt - 1, math.MaxInt}
}

// probes are the bounds and what is next to them: what is told of spans with these bounds can change nowhere else.
func probes() []int {
	var days []int
	for _, b := range bounds() {
		days = append(days, b-1, b, b+1) // These go round at both ends, and are numbers of no days there too.
	}
	return days
}

// spansOf are all spans whose bounds both are of l, the wrong ones with them.
func spansOf(l []int) []api.Span {
	var all []api.Span
	for _, from := range l {
		for _, to := range l {
			all = append(all, of(from, to))
		}
	}
	return all
}

// numbers are those from low to high.
func numbers(low, high int) []int {
	var l []int
	for n := low; n <= high; n++ {
		l = append(l, n)
	}
	return l
}

// runs are the spans of days from low to high of which in tells true, as long as they can be.
func runs(low, high int, in func(day int) bool) []api.Span {
	var l []api.Span
	for day := low; day <= high; day++ {
		if !in(day) {
			continue
		}
		if in(day-1) && len(l) > 0 {
			l[len(l)-1].To = day + 1
		} else {
			l = append(l, of(day, day+1))
		}
	}
	return l
}

// checkRising asks that each span has days, and begins no earlier than the one ahead ends, or later than that, if they may not touch.
func checkRising(t *testing.T, name string, l []api.Span, apart int) {
	t.Helper()
	for i, s := range l {
		if s.From < 1 || s.From >= s.To || s.To > api.MaxDay+1 {
			t.Errorf("%s: %v: the span at %d has no days", name, l, i)
		}
		if i > 0 && s.From < l[i-1].To+apart {
			t.Errorf("%s: %v: the span at %d isn't behind the one ahead", name, l, i)
		}
	}
}

func manyOf(l []api.Span) int {
	days := 0
	for _, s := range l {
		days += span.Many(s)
	}
	return days
}

func TestP3_1RightAndMany(t *testing.T) {
	for _, x := range []struct {
		s     api.Span
		right bool
		many  int
	}{
		{of(1, 1), true, 0}, {of(1, 2), true, 1}, {of(5, 9), true, 4}, {of(9, 9), true, 0}, {of(1, api.MaxDay), true, api.MaxDay - 1}, {of(1, api.MaxDay+1), true, api.MaxDay},
		{of(api.MaxDay, api.MaxDay), true, 0}, {of(api.MaxDay, api.MaxDay+1), true, 1}, {of(api.MaxDay+1, api.MaxDay+1), true, 0},
		{of(0, 0), false, 0}, {of(0, 1), false, 0}, {of(0, 9), false, 0}, {of(-1, 9), false, 0}, {of(-9, -5), false, 0}, {of(2, 1), false, 0}, {of(9, 5), false, 0}, {of(1, 0), false, 0},
		{of(1, api.MaxDay+2), false, 0}, {of(api.MaxDay, api.MaxDay+2), false, 0}, {of(api.MaxDay+1, api.MaxDay+2), false, 0}, {of(api.MaxDay+2, api.MaxDay+2), false, 0}, {of(api.MaxDay+1, api.MaxDay), false, 0},
		{of(math.MinInt, math.MaxInt), false, 0}, {of(math.MaxInt, math.MinInt), false, 0}, {of(1, math.MaxInt), false, 0}, {of(math.MinInt, 9), false, 0}, {of(1, math.MinInt), false, 0}, {of(1, 1<<32+5), false, 0}, {of(1<<32+1, 1<<32+5), false, 0},
	} {
		if right, many := span.Right(x.s), span.Many(x.s); right != x.right || many != x.many {
			t.Errorf("%v: Right %v, Many %d; want %v, %d", x.s, right, many, x.right, x.many)
		}
	}
}

func TestP3_1RightOfAllBounds(t *testing.T) {
	for _, s := range spansOf(bounds()) {
		right := 1 <= s.From && s.From <= s.To && s.To <= api.MaxDay+1
		many := 0
		if right {
			many = s.To - s.From
		}
		if span.Right(s) != right || span.Many(s) != many {
			t.Errorf("%v: Right %v, Many %d; want %v, %d", s, span.Right(s), span.Many(s), right, many)
		}
	}
}

func TestP3_1In(t *testing.T) {
	for _, x := range []struct {
		s   api.Span
		day int
		in  bool
	}{
		{of(5, 9), 4, false}, {of(5, 9), 5, true}, {of(5, 9), 8, true}, {of(5, 9), 9, false}, {of(5, 5), 5, false}, {of(5, 6), 5, true}, {of(9, 5), 7, false},
		{of(1, api.MaxDay+1), 0, false}, {of(1, api.MaxDay+1), 1, true}, {of(1, api.MaxDay+1), api.MaxDay, true}, {of(1, api.MaxDay+1), api.MaxDay + 1, false},
		{of(0, 9), 0, false}, {of(0, 9), 5, false}, {of(1, api.MaxDay+2), 5, false}, {of(-9, -1), -5, false}, {of(math.MinInt, math.MaxInt), 5, false},
		{of(5, 9), math.MinInt, false}, {of(5, 9), math.MaxInt, false}, {of(5, 9), 1<<32 + 6, false},
	} {
		if got := span.In(x.s, x.day); got != x.in {
			t.Errorf("In(%v, %d): %v", x.s, x.day, got)
		}
	}
	for _, s := range spansOf(bounds()) {
		for _, day := range probes() {
			if got := span.In(s, day); got != has(s, day) {
				t.Errorf("In(%v, %d): %v", s, day, got)
			}
		}
	}
}

func TestP3_2CutAndLess(t *testing.T) {
	for _, x := range []struct {
		a, b, cut api.Span
		less      []api.Span
	}{
		{of(1, 10), of(5, 20), of(5, 10), []api.Span{of(1, 5)}}, {of(1, 10), of(3, 5), of(3, 5), []api.Span{of(1, 3), of(5, 10)}}, {of(3, 5), of(1, 10), of(3, 5), nil}, {of(5, 20), of(1, 10), of(5, 10), []api.Span{of(10, 20)}},
		{of(1, 10), of(1, 10), of(1, 10), nil}, {of(1, 10), of(1, 4), of(1, 4), []api.Span{of(4, 10)}}, {of(1, 10), of(4, 10), of(4, 10), []api.Span{of(1, 4)}}, {of(1, 10), of(9, 10), of(9, 10), []api.Span{of(1, 9)}},
		{of(1, 10), of(10, 12), of(0, 0), []api.Span{of(1, 10)}}, {of(10, 12), of(1, 10), of(0, 0), []api.Span{of(10, 12)}}, {of(1, 3), of(7, 9), of(0, 0), []api.Span{of(1, 3)}}, {of(7, 9), of(1, 3), of(0, 0), []api.Span{of(7, 9)}},
		{of(1, api.MaxDay+1), of(api.MaxDay, api.MaxDay+1), of(api.MaxDay, api.MaxDay+1), []api.Span{of(1, api.MaxDay)}}, {of(1, api.MaxDay+1), of(1, 2), of(1, 2), []api.Span{of(2, api.MaxDay+1)}},
	} {
		if got := span.Cut(x.a, x.b); got != x.cut {
			t.Errorf("Cut(%v, %v): %v; want %v", x.a, x.b, got, x.cut)
		}
		if got := span.Less(x.a, x.b); !slices.Equal(got, x.less) {
			t.Errorf("Less(%v, %v): %v; want %v", x.a, x.b, got, x.less)
		}
	}
}

func TestP3_2SpansWithoutDays(t *testing.T) {
	whole := of(1, api.MaxDay+1)
	for _, empty := range []api.Span{{}, of(5, 5), of(9, 5), of(0, 9), of(1, 1), of(-9, 9), of(1, api.MaxDay+2), of(api.MaxDay+1, api.MaxDay+1), of(math.MinInt, math.MaxInt), of(math.MaxInt, math.MinInt)} {
		for _, s := range []api.Span{whole, of(5, 9), empty} {
			if got := span.Cut(s, empty); got != (api.Span{}) {
				t.Errorf("Cut(%v, %v): %v", s, empty, got)
			}
			if got := span.Cut(empty, s); got != (api.Span{}) {
				t.Errorf("Cut(%v, %v): %v", empty, s, got)
			}
			if got := span.Less(empty, s); len(got) != 0 {
				t.Errorf("Less(%v, %v): %v", empty, s, got)
			}
		}
		for _, s := range []api.Span{whole, of(5, 9), of(1, 2)} {
			if got := span.Less(s, empty); !slices.Equal(got, []api.Span{s}) {
				t.Errorf("Less(%v, %v): %v", s, empty, got)
			}
		}
	}
}

// checkPair holds Cut and Less of two spans against the days that these have, at each day of days.
func checkPair(t *testing.T, a, b api.Span, days []int) {
	t.Helper()
	cut, less := span.Cut(a, b), span.Less(a, b)
	if span.Many(cut) == 0 && cut != (api.Span{}) {
		t.Errorf("Cut(%v, %v): %v, without days", a, b, cut)
	}
	if len(less) > 2 {
		t.Errorf("Less(%v, %v): %v", a, b, less)
	}
	checkRising(t, "Less", less, 0)
	for _, day := range days {
		if has(cut, day) != (has(a, day) && has(b, day)) {
			t.Errorf("Cut(%v, %v): %v, at day %d", a, b, cut, day)
		}
		if anyHas(less, day) != (has(a, day) && !has(b, day)) {
			t.Errorf("Less(%v, %v): %v, at day %d", a, b, less, day)
		}
	}
	if span.Many(cut)+manyOf(less) != span.Many(a) {
		t.Errorf("Cut and Less of %v, %v: %v, %v: not the days of the first one", a, b, cut, less)
	}
}

func TestP3_2P3_5CutAndLessOfAllBounds(t *testing.T) {
	for _, l := range [][]int{bounds(), numbers(-1, 8), numbers(api.MaxDay-5, api.MaxDay+3)} {
		days := slices.Concat(probes(), numbers(-2, 9), numbers(api.MaxDay-6, api.MaxDay+4))
		slices.Sort(days)
		days = slices.Compact(days)
		all := spansOf(l)
		for _, a := range all {
			for _, b := range all {
				checkPair(t, a, b, days)
			}
		}
	}
}

func checkJoin(t *testing.T, l, want []api.Span) {
	t.Helper()
	given := slices.Clone(l)
	got := span.Join(l)
	if !slices.Equal(got, want) {
		t.Errorf("Join(%v): %v; want %v", l, got, want)
	}
	if again := span.Join(got); !slices.Equal(again, got) {
		t.Errorf("Join(%v): %v; want %v", got, again, got)
	}
	if !slices.Equal(l, given) {
		t.Errorf("Join changed %v to %v", given, l)
	}
}

func TestP3_3Join(t *testing.T) {
	whole := of(1, api.MaxDay+1)
	for _, x := range []struct{ l, want []api.Span }{
		{nil, nil}, {[]api.Span{}, nil}, {[]api.Span{of(3, 5)}, []api.Span{of(3, 5)}}, {[]api.Span{of(5, 7), of(1, 3), of(3, 4)}, []api.Span{of(1, 4), of(5, 7)}},
		{[]api.Span{of(1, 3), of(3, 5)}, []api.Span{of(1, 5)}}, {[]api.Span{of(1, 3), of(4, 5)}, []api.Span{of(1, 3), of(4, 5)}}, {[]api.Span{of(1, 9), of(2, 3)}, []api.Span{of(1, 9)}}, {[]api.Span{of(1, 9), of(2, 3), of(4, 12)}, []api.Span{of(1, 12)}},
		{[]api.Span{of(3, 5), of(3, 9), of(3, 4)}, []api.Span{of(3, 9)}}, {[]api.Span{of(1, 2), of(3, 4), of(1, 2)}, []api.Span{of(1, 2), of(3, 4)}}, {[]api.Span{of(8, 9), of(1, 2), of(2, 8)}, []api.Span{of(1, 9)}},
		{[]api.Span{{}, of(4, 4), of(9, 2), of(0, 5), of(-3, 9), of(1, api.MaxDay+2), of(math.MinInt, math.MaxInt), of(math.MaxInt, math.MinInt)}, nil},
		{[]api.Span{of(1, 3), of(0, 9), of(3, 3), of(5, 7), of(7, 4)}, []api.Span{of(1, 3), of(5, 7)}}, {[]api.Span{of(1, 5), of(5, 5), of(6, 6), of(6, 9)}, []api.Span{of(1, 5), of(6, 9)}}, {[]api.Span{of(2, 4), of(4, api.MaxDay+2), of(1, 2)}, []api.Span{of(1, 4)}},
		{[]api.Span{whole, whole}, []api.Span{whole}}, {[]api.Span{of(api.MaxDay, api.MaxDay+1), of(1, api.MaxDay)}, []api.Span{whole}}, {[]api.Span{of(api.MaxDay, api.MaxDay+1), of(1, api.MaxDay-1)}, []api.Span{of(1, api.MaxDay-1), of(api.MaxDay, api.MaxDay+1)}},
		{[]api.Span{of(api.MaxDay+1, api.MaxDay+1), of(1, 2)}, []api.Span{of(1, 2)}},
	} {
		checkJoin(t, x.l, x.want)
	}
}

func TestP3_3P3_5JoinOfAllThrees(t *testing.T) {
	all := spansOf(numbers(0, 6))
	for _, a := range all {
		for _, b := range all {
			for _, c := range all {
				l := []api.Span{a, b, c}
				checkJoin(t, l, runs(1, 6, func(day int) bool { return anyHas(l, day) }))
			}
		}
	}
}

func TestP3_3JoinOfManySpans(t *testing.T) {
	source := rand.New(rand.NewSource(3))
	for _, high := range []int{20, 60, 400} {
		for range 200 {
			var l []api.Span
			for range source.Intn(60) {
				from := source.Intn(high) - 1
				l = append(l, of(from, from+source.Intn(9)-2))
			}
			want := runs(1, high+9, func(day int) bool { return anyHas(l, day) })
			checkJoin(t, l, want)
			checkRising(t, "Join", want, 1)
			slices.Reverse(l)
			checkJoin(t, l, want)
			source.Shuffle(len(l), func(i, k int) { l[i], l[k] = l[k], l[i] })
			checkJoin(t, l, want)
		}
	}
}

func TestP3_3JoinOfEveryDay(t *testing.T) {
	var odd, every []api.Span
	for day := api.MaxDay; day >= 1; day-- {
		every = append(every, of(day, day+1))
		if day%2 == 1 {
			odd = append(odd, of(day, day+1))
		}
	}
	checkJoin(t, every, []api.Span{of(1, api.MaxDay+1)})
	want := slices.Clone(odd)
	slices.Reverse(want)
	checkJoin(t, odd, want)
}

func checkParts(t *testing.T, s api.Span, at []int, want []api.Span) {
	t.Helper()
	given := slices.Clone(at)
	got := span.Parts(s, at)
	if !slices.Equal(got, want) {
		t.Errorf("Parts(%v, %v): %v; want %v", s, at, got, want)
	}
	if joined := span.Join(got); !slices.Equal(joined, span.Join([]api.Span{s})) {
		t.Errorf("Parts(%v, %v), joined: %v", s, at, joined)
	}
	if !slices.Equal(at, given) {
		t.Errorf("Parts changed %v to %v", given, at)
	}
}

func TestP3_4Parts(t *testing.T) {
	whole := of(1, api.MaxDay+1)
	for _, x := range []struct {
		s    api.Span
		at   []int
		want []api.Span
	}{
		{of(1, 10), nil, []api.Span{of(1, 10)}}, {of(1, 10), []int{}, []api.Span{of(1, 10)}}, {of(1, 10), []int{7, 3, 7, 1}, []api.Span{of(1, 3), of(3, 7), of(7, 10)}}, {of(1, 10), []int{3, 7}, []api.Span{of(1, 3), of(3, 7), of(7, 10)}},
		{of(5, 10), []int{5, 10, 11, 4, -1, 0, 5}, []api.Span{of(5, 10)}}, {of(5, 10), []int{9}, []api.Span{of(5, 9), of(9, 10)}}, {of(5, 10), []int{6}, []api.Span{of(5, 6), of(6, 10)}}, {of(1, 3), []int{2, 2, 2}, []api.Span{of(1, 2), of(2, 3)}},
		{of(5, 6), []int{5, 6, 4, 7}, []api.Span{of(5, 6)}}, {of(5, 9), []int{math.MinInt, math.MaxInt, 1<<32 + 6, 7}, []api.Span{of(5, 7), of(7, 9)}}, {of(5, 9), []int{8, 7, 6, 5}, []api.Span{of(5, 6), of(6, 7), of(7, 8), of(8, 9)}},
		{whole, []int{api.MaxDay + 1, api.MaxDay, 1, 0}, []api.Span{of(1, api.MaxDay), of(api.MaxDay, api.MaxDay+1)}}, {whole, []int{api.MaxDay + 2}, []api.Span{whole}},
		{api.Span{}, []int{0, 1}, nil}, {of(5, 5), []int{5}, nil}, {of(9, 5), []int{6}, nil}, {of(0, 9), []int{5}, nil}, {of(0, 9), nil, nil}, {of(-9, -1), []int{-5}, nil}, {of(1, api.MaxDay+2), []int{5}, nil},
		{of(math.MinInt, math.MaxInt), []int{5}, nil}, {of(math.MaxInt, math.MinInt), []int{0}, nil}, {of(api.MaxDay+1, api.MaxDay+1), []int{api.MaxDay + 1}, nil},
	} {
		checkParts(t, x.s, x.at, x.want)
	}
}

// partsOf is what Parts tells of a span, found day by day: a part begins on the first day, and on each one of at.
func partsOf(s api.Span, at []int, low, high int) []api.Span {
	var l []api.Span
	for day := low; day <= high; day++ {
		if !has(s, day) {
			continue
		}
		if day == s.From || slices.Contains(at, day) {
			l = append(l, of(day, day))
		}
		l[len(l)-1].To = day + 1
	}
	return l
}

func TestP3_4P3_5PartsAtAllThrees(t *testing.T) {
	for _, s := range spansOf(numbers(0, 7)) {
		for _, a := range numbers(-1, 8) {
			for _, b := range numbers(-1, 8) {
				for _, c := range numbers(-1, 8) {
					at := []int{a, b, c}
					checkParts(t, s, at, partsOf(s, at, 1, 8))
				}
			}
		}
	}
}

func TestP3_4PartsAtManyDays(t *testing.T) {
	source := rand.New(rand.NewSource(4))
	for range 500 {
		from := source.Intn(50)
		s := of(from, from+source.Intn(300)-2)
		var at []int
		for range source.Intn(80) {
			at = append(at, source.Intn(380)-10)
		}
		checkParts(t, s, at, partsOf(s, at, 1, 400))
	}
	var at []int
	var want []api.Span
	for day := 1; day <= api.MaxDay; day++ {
		at = append(at, day)
		want = append(want, of(day, day+1))
	}
	slices.Reverse(at)
	checkParts(t, of(1, api.MaxDay+1), at, want)
}

func TestP3_3P3_4AnswersAreNewMemory(t *testing.T) {
	l := []api.Span{of(1, 3), of(5, 7)}
	joined := span.Join(l)
	joined[0], joined[1] = of(2, 2), of(2, 2)
	if l[0] != of(1, 3) || l[1] != of(5, 7) {
		t.Errorf("Join shares memory with what is handed in: %v", l)
	}
	// What stands behind the end of a list that is handed in isn't the call's either.
	long := []api.Span{of(5, 7), of(1, 3), of(8, 9)}
	span.Join(long[:1])
	days := []int{7, 3, 5}
	span.Parts(of(1, 9), days[:1])
	if !slices.Equal(long, []api.Span{of(5, 7), of(1, 3), of(8, 9)}) || !slices.Equal(days, []int{7, 3, 5}) {
		t.Errorf("written behind the end: %v, %v", long, days)
	}
}
