package step_test

import (
	"math"
	"math/big"
	"math/rand"
	"slices"
	"testing"

	"bordereau/api"
	"bordereau/step"
)

func of(from, to int) api.Span { return api.Span{From: from, To: to} }

func stepOf(at, val []int) api.Step { return api.Step{At: at, Val: val} }

func same(f, g api.Step) bool { return slices.Equal(f.At, g.At) && slices.Equal(f.Val, g.Val) }

func clone(f api.Step) api.Step { return stepOf(slices.Clone(f.At), slices.Clone(f.Val)) }

// isRight tells by the words of the chapter, one by one, whether a step is right.
func isRight(f api.Step) bool {
	if len(f.At) != len(f.Val) {
		return false
	}
	for i := range f.At {
		if f.At[i] < 1 || f.At[i] > api.MaxDay || f.Val[i] < -api.MaxSum || f.Val[i] > api.MaxSum {
			return false
		}
		if i == 0 && f.Val[0] == 0 || i > 0 && (f.At[i] <= f.At[i-1] || f.Val[i] == f.Val[i-1]) {
			return false
		}
	}
	return true
}

func isFull(s api.Span) bool { return 1 <= s.From && s.From < s.To && s.To <= api.MaxDay+1 }

// valueAt is the value of a right step on a day, looked for from the first At on.
func valueAt(f api.Step, day int) int {
	v := 0
	for i, at := range f.At {
		if at <= day {
			v = f.Val[i]
		}
	}
	return v
}

// fromDays is the right step whose values on the days from low on are l, and 0 ahead of them; the last one goes on.
func fromDays(low int, l []int) api.Step {
	var f api.Step
	held := 0
	for i, v := range l {
		if v != held {
			f.At, f.Val = append(f.At, low+i), append(f.Val, v)
			held = v
		}
	}
	return f
}

// numbers are those from low to high.
func numbers(low, high int) []int {
	var l []int
	for n := low; n <= high; n++ {
		l = append(l, n)
	}
	return l
}

func spansOf(l []int) []api.Span {
	var all []api.Span
	for _, from := range l {
		for _, to := range l {
			all = append(all, of(from, to))
		}
	}
	return all
}

// stepsOf are all right steps that change on n days from low on alone, with these values.
func stepsOf(low, n int, values []int) []api.Step {
	lists := [][]int{nil}
	for range n {
		var longer [][]int
		for _, l := range lists {
			for _, v := range values {
				longer = append(longer, append(slices.Clone(l), v))
			}
		}
		lists = longer
	}
	var all []api.Step
	for _, l := range lists {
		all = append(all, fromDays(low, l))
	}
	return all
}

// wrongSteps are such that aren't right: of each of the chapter's words one at least.
func wrongSteps() []api.Step {
	return []api.Step{
		stepOf([]int{1}, nil), stepOf(nil, []int{1}), stepOf([]int{1, 2}, []int{1}), stepOf([]int{1}, []int{1, 2}), stepOf([]int{3, 5, 7}, []int{7, 0}),
		stepOf([]int{0}, []int{1}), stepOf([]int{-1}, []int{1}), stepOf([]int{-3, 5}, []int{1, 2}), stepOf([]int{math.MinInt}, []int{1}), stepOf([]int{math.MinInt, 4}, []int{1, 2}),
		stepOf([]int{api.MaxDay + 1}, []int{1}), stepOf([]int{5, api.MaxDay + 1}, []int{1, 0}), stepOf([]int{math.MaxInt}, []int{1}), stepOf([]int{1<<32 + 5}, []int{1}),
		stepOf([]int{2, 2}, []int{1, 2}), stepOf([]int{3, 2}, []int{1, 2}), stepOf([]int{3, 5, 4}, []int{1, 2, 3}), stepOf([]int{3, 5, 5}, []int{1, 2, 3}),
		stepOf([]int{1}, []int{0}), stepOf([]int{3, 5}, []int{0, 1}), stepOf([]int{1, 2}, []int{1, 1}), stepOf([]int{1, 2, 3}, []int{1, 0, 0}), stepOf([]int{1, 2, 3, 4}, []int{1, 2, -2, -2}),
		stepOf([]int{1}, []int{api.MaxSum + 1}), stepOf([]int{1}, []int{-api.MaxSum - 1}), stepOf([]int{1, 2}, []int{1, api.MaxSum + 1}), stepOf([]int{1, 2}, []int{1, -api.MaxSum - 1}),
		stepOf([]int{1}, []int{math.MaxInt}), stepOf([]int{1}, []int{math.MinInt}), stepOf([]int{3, 4}, []int{1, math.MinInt}),
	}
}

// wrongSpans are such that aren't full.
func wrongSpans() []api.Span {
	return []api.Span{{}, of(4, 4), of(1, 1), of(6, 4), of(0, 1), of(0, 4), of(-3, 4), of(-5, -2), of(1, 0), of(4, api.MaxDay+2), of(api.MaxDay+1, api.MaxDay+1), of(api.MaxDay+1, api.MaxDay+2), of(math.MinInt, 4), of(4, math.MaxInt), of(math.MinInt, math.MaxInt), of(math.MaxInt, math.MinInt), of(4, 1<<32+6)}
}

func TestP4_1Right(t *testing.T) {
	for _, f := range []api.Step{
		{}, stepOf([]int{}, nil), stepOf(nil, []int{}), stepOf([]int{1}, []int{1}), stepOf([]int{1}, []int{-1}), stepOf([]int{3, 5}, []int{7, 0}), stepOf([]int{3, 5, 7}, []int{7, 0, 7}), stepOf([]int{3, 4, 5}, []int{7, -7, 7}),
		stepOf([]int{1, api.MaxDay}, []int{1, 0}), stepOf([]int{api.MaxDay}, []int{api.MaxSum}), stepOf([]int{api.MaxDay}, []int{-api.MaxSum}), stepOf([]int{1, 2}, []int{api.MaxSum, -api.MaxSum}), stepOf([]int{api.MaxDay - 1, api.MaxDay}, []int{2, 1}),
	} {
		if !step.Right(f) {
			t.Errorf("%v isn't right", f)
		}
	}
	for _, f := range wrongSteps() {
		if step.Right(f) {
			t.Errorf("%v is right", f)
		}
	}
}

func TestP4_1RightOfAllPairs(t *testing.T) {
	ats := []int{math.MinInt, -1, 0, 1, 2, 3, api.MaxDay - 1, api.MaxDay, api.MaxDay + 1, math.MaxInt}
	vals := []int{math.MinInt, -api.MaxSum - 1, -api.MaxSum, -1, 0, 1, api.MaxSum, api.MaxSum + 1, math.MaxInt}
	for _, a := range ats {
		for _, b := range ats {
			for _, v := range vals {
				for _, w := range vals {
					if f := stepOf([]int{a, b}, []int{v, w}); step.Right(f) != isRight(f) {
						t.Errorf("%v: Right %v", f, step.Right(f))
					}
				}
			}
		}
	}
}

func TestP4_1At(t *testing.T) {
	f := stepOf([]int{3, 5, 7, 10, api.MaxDay}, []int{7, -2, 7, 0, api.MaxSum})
	for _, x := range []struct{ day, want int }{
		{math.MinInt, 0}, {-5, 0}, {0, 0}, {1, 0}, {2, 0}, {3, 7}, {4, 7}, {5, -2}, {6, -2}, {7, 7}, {9, 7}, {10, 0}, {11, 0}, {api.MaxDay - 1, 0}, {api.MaxDay, api.MaxSum},
		// A number behind the last day is no day, and has the last value all the same.
		{api.MaxDay + 1, api.MaxSum}, {1 << 32, api.MaxSum}, {math.MaxInt, api.MaxSum},
	} {
		if got := step.At(f, x.day); got != x.want {
			t.Errorf("At(%v, %d): %d; want %d", f, x.day, got, x.want)
		}
	}
	days := []int{math.MinInt, -1, 0, 1, 2, 3, 4, 5, 6, api.MaxDay, api.MaxDay + 1, math.MaxInt}
	for _, f := range stepsOf(1, 5, []int{0, 4, -4}) {
		for _, day := range days {
			if got := step.At(f, day); got != valueAt(f, day) {
				t.Errorf("At(%v, %d): %d", f, day, got)
			}
		}
	}
	for _, f := range wrongSteps() {
		for _, day := range days {
			if got := step.At(f, day); got != 0 {
				t.Errorf("At(%v, %d): %d, of a step that isn't right", f, day, got)
			}
		}
	}
	if got := step.At(api.Step{}, 7); got != 0 {
		t.Errorf("At of the zero step: %d", got)
	}
}

func TestP4_2Set(t *testing.T) {
	f := stepOf([]int{3, 5, 7, 10}, []int{7, -2, 7, 0})
	last := stepOf([]int{api.MaxDay}, []int{4})
	for _, x := range []struct {
		f    api.Step
		s    api.Span
		v    int
		want api.Step
	}{
		{api.Step{}, of(3, 5), 7, stepOf([]int{3, 5}, []int{7, 0})}, {api.Step{}, of(3, 5), 0, api.Step{}}, {api.Step{}, of(1, api.MaxDay+1), 7, stepOf([]int{1}, []int{7})}, {api.Step{}, of(api.MaxDay, api.MaxDay+1), 7, stepOf([]int{api.MaxDay}, []int{7})}, {api.Step{}, of(1, api.MaxDay), 7, stepOf([]int{1, api.MaxDay}, []int{7, 0})},
		{api.Step{}, of(3, 5), api.MaxSum, stepOf([]int{3, 5}, []int{api.MaxSum, 0})}, {api.Step{}, of(3, 5), -api.MaxSum, stepOf([]int{3, 5}, []int{-api.MaxSum, 0})},
		{f, of(5, 7), 7, stepOf([]int{3, 10}, []int{7, 0})}, {f, of(3, 10), 0, api.Step{}}, {f, of(1, 3), 7, stepOf([]int{1, 5, 7, 10}, []int{7, -2, 7, 0})}, {f, of(10, api.MaxDay+1), 7, stepOf([]int{3, 5, 7}, []int{7, -2, 7})},
		{f, of(4, 6), 7, stepOf([]int{3, 6, 7, 10}, []int{7, -2, 7, 0})}, {f, of(4, 6), 1, stepOf([]int{3, 4, 6, 7, 10}, []int{7, 1, -2, 7, 0})}, {f, of(4, 8), -2, stepOf([]int{3, 4, 8, 10}, []int{7, -2, 7, 0})}, {f, of(3, 5), 7, f}, {f, of(12, 14), 0, f},
		{f, of(1, api.MaxDay+1), 0, api.Step{}}, {f, of(1, api.MaxDay+1), -2, stepOf([]int{1}, []int{-2})}, {f, of(8, 9), 5, stepOf([]int{3, 5, 7, 8, 9, 10}, []int{7, -2, 7, 5, 7, 0})}, {f, of(10, 11), 3, stepOf([]int{3, 5, 7, 10, 11}, []int{7, -2, 7, 3, 0})},
		{last, of(api.MaxDay, api.MaxDay+1), 0, api.Step{}}, {last, of(api.MaxDay-1, api.MaxDay), 4, stepOf([]int{api.MaxDay - 1}, []int{4})}, {last, of(api.MaxDay-1, api.MaxDay+1), 5, stepOf([]int{api.MaxDay - 1}, []int{5})},
	} {
		if got := step.Set(x.f, x.s, x.v); !same(got, x.want) {
			t.Errorf("Set(%v, %v, %d): %v; want %v", x.f, x.s, x.v, got, x.want)
		}
	}
}

func TestP4_2SetOfWhatIsWrong(t *testing.T) {
	f := stepOf([]int{3, 5, 7, 10}, []int{7, -2, 7, 0})
	values := []int{math.MinInt, -api.MaxSum - 1, -1, 0, 1, api.MaxSum, api.MaxSum + 1, math.MaxInt}
	for _, s := range append(wrongSpans(), of(4, 6), of(1, api.MaxDay+1)) {
		for _, v := range values {
			for _, wrong := range wrongSteps() {
				if got := step.Set(wrong, s, v); !same(got, api.Step{}) {
					t.Errorf("Set(%v, %v, %d): %v, of a step that isn't right", wrong, s, v, got)
				}
			}
			if isFull(s) && v >= -api.MaxSum && v <= api.MaxSum {
				continue
			}
			for _, right := range []api.Step{f, {}} {
				if got := step.Set(right, s, v); !same(got, right) {
					t.Errorf("Set(%v, %v, %d): %v", right, s, v, got)
				}
			}
		}
	}
}

// checkSet holds Set against the values on each day from low to high.
func checkSet(t *testing.T, f api.Step, s api.Span, v, low, high int) {
	t.Helper()
	given := clone(f)
	var values []int
	for day := low; day <= high; day++ {
		if isFull(s) && s.From <= day && day < s.To {
			values = append(values, v)
		} else {
			values = append(values, valueAt(f, day))
		}
	}
	got := step.Set(f, s, v)
	if want := fromDays(low, values); !same(got, want) || !isRight(got) {
		t.Errorf("Set(%v, %v, %d): %v; want %v", f, s, v, got, want)
	}
	if !same(f, given) {
		t.Errorf("Set changed %v to %v", given, f)
	}
}

func TestP4_2P4_6SetOfAllSmallSteps(t *testing.T) {
	for _, f := range stepsOf(1, 5, []int{0, 2, -3}) {
		for _, s := range spansOf(numbers(0, 7)) {
			for _, v := range []int{0, 2, -3, 5} {
				checkSet(t, f, s, v, 1, 8)
			}
		}
	}
	for _, f := range stepsOf(api.MaxDay-3, 4, []int{0, 2, -3}) {
		for _, s := range spansOf(numbers(api.MaxDay-4, api.MaxDay+2)) {
			for _, v := range []int{0, 2, 5} {
				checkSet(t, f, s, v, api.MaxDay-4, api.MaxDay)
			}
		}
	}
}

func TestP4_3Add(t *testing.T) {
	f := stepOf([]int{3, 5, 7, 10}, []int{7, -2, 7, 0})
	top, bottom := stepOf([]int{4}, []int{api.MaxSum}), stepOf([]int{4}, []int{-api.MaxSum})
	for _, x := range []struct {
		f, g, want api.Step
		e          api.Errno
	}{
		{api.Step{}, api.Step{}, api.Step{}, api.OK}, {f, api.Step{}, f, api.OK}, {f, stepOf([]int{5, 12}, []int{2, 0}), stepOf([]int{3, 5, 7, 10, 12}, []int{7, 0, 9, 2, 0}), api.OK}, {f, f, stepOf([]int{3, 5, 7, 10}, []int{14, -4, 14, 0}), api.OK}, {f, stepOf([]int{3, 5, 7, 10}, []int{-7, 2, -7, 0}), api.Step{}, api.OK},
		{stepOf([]int{3}, []int{1}), stepOf([]int{5}, []int{1}), stepOf([]int{3, 5}, []int{1, 2}), api.OK}, {stepOf([]int{3, 6}, []int{1, 4}), stepOf([]int{5, 6}, []int{3, 0}), stepOf([]int{3, 5}, []int{1, 4}), api.OK}, {stepOf([]int{1}, []int{1}), stepOf([]int{api.MaxDay}, []int{-1}), stepOf([]int{1, api.MaxDay}, []int{1, 0}), api.OK},
		{top, bottom, api.Step{}, api.OK}, {top, top, api.Step{}, api.ErrOver}, {bottom, bottom, api.Step{}, api.ErrOver}, {top, stepOf([]int{9}, []int{1}), api.Step{}, api.ErrOver}, {top, stepOf([]int{2, 4}, []int{1, 0}), stepOf([]int{2, 4}, []int{1, api.MaxSum}), api.OK}, {top, stepOf([]int{2, 5}, []int{1, 0}), api.Step{}, api.ErrOver},
		{bottom, stepOf([]int{api.MaxDay}, []int{-1}), api.Step{}, api.ErrOver}, {top, stepOf([]int{api.MaxDay}, []int{1}), api.Step{}, api.ErrOver}, {bottom, stepOf([]int{3, 4}, []int{-api.MaxSum, 0}), stepOf([]int{3}, []int{-api.MaxSum}), api.OK}, {bottom, stepOf([]int{3, 5}, []int{-1, 0}), api.Step{}, api.ErrOver},
		{stepOf([]int{4}, []int{api.MaxSum - 3}), stepOf([]int{5}, []int{3}), stepOf([]int{4, 5}, []int{api.MaxSum - 3, api.MaxSum}), api.OK}, {stepOf([]int{4}, []int{3 - api.MaxSum}), stepOf([]int{5}, []int{-3}), stepOf([]int{4, 5}, []int{3 - api.MaxSum, -api.MaxSum}), api.OK}, {stepOf([]int{4}, []int{api.MaxSum - 3}), stepOf([]int{5}, []int{4}), api.Step{}, api.ErrOver},
	} {
		for _, pair := range [][2]api.Step{{x.f, x.g}, {x.g, x.f}} {
			if got, e := step.Add(pair[0], pair[1]); !same(got, x.want) || e != x.e {
				t.Errorf("Add(%v, %v): %v, %d; want %v, %d", pair[0], pair[1], got, e, x.want, x.e)
			}
		}
	}
}

func TestP4_3AddOfWrongSteps(t *testing.T) {
	for _, wrong := range wrongSteps() {
		for _, other := range append(wrongSteps(), api.Step{}, stepOf([]int{1}, []int{api.MaxSum}), stepOf([]int{3, 5}, []int{7, 0})) {
			if got, e := step.Add(wrong, other); e != api.ErrArg || !same(got, api.Step{}) {
				t.Errorf("Add(%v, %v): %v, %d", wrong, other, got, e)
			}
			if got, e := step.Add(other, wrong); e != api.ErrArg || !same(got, api.Step{}) {
				t.Errorf("Add(%v, %v): %v, %d", other, wrong, got, e)
			}
		}
	}
}

// checkAdd holds Add against the values on each day from low to high.
func checkAdd(t *testing.T, f, g api.Step, low, high int) {
	t.Helper()
	before, beside := clone(f), clone(g)
	var values []int
	over := false
	for day := low; day <= high; day++ {
		v := new(big.Int).Add(big.NewInt(int64(valueAt(f, day))), big.NewInt(int64(valueAt(g, day))))
		over = over || v.CmpAbs(big.NewInt(api.MaxSum)) > 0
		values = append(values, int(v.Int64()))
	}
	want, code := fromDays(low, values), api.OK
	if over {
		want, code = api.Step{}, api.ErrOver
	}
	if got, e := step.Add(f, g); !same(got, want) || e != code || !isRight(got) {
		t.Errorf("Add(%v, %v): %v, %d; want %v, %d", f, g, got, e, want, code)
	}
	if !same(f, before) || !same(g, beside) {
		t.Errorf("Add changed %v, %v to %v, %v", before, beside, f, g)
	}
}

func TestP4_3P4_6AddOfAllSmallSteps(t *testing.T) {
	small := stepsOf(1, 4, []int{0, 2, -2})
	for _, f := range small {
		for _, g := range small {
			checkAdd(t, f, g, 1, 5)
		}
	}
	great := stepsOf(api.MaxDay-2, 3, []int{0, 1, -1, api.MaxSum, -api.MaxSum})
	for _, f := range great {
		for _, g := range great {
			checkAdd(t, f, g, api.MaxDay-3, api.MaxDay)
		}
	}
}

// sumOf is what Sum has to tell, reckoned span by span with numbers of any size.
func sumOf(f api.Step, s api.Span) (int, api.Errno) {
	if !isRight(f) || !isFull(s) {
		return 0, api.ErrArg
	}
	sum, size := new(big.Int), new(big.Int)
	for i, at := range f.At {
		to := api.MaxDay + 1
		if i+1 < len(f.At) {
			to = f.At[i+1]
		}
		if days := min(to, s.To) - max(at, s.From); days > 0 {
			part := new(big.Int).Mul(big.NewInt(int64(days)), big.NewInt(int64(f.Val[i])))
			sum.Add(sum, part)
			size.Add(size, part.Abs(part))
		}
	}
	if size.Cmp(big.NewInt(api.MaxSum)) > 0 {
		return 0, api.ErrOver
	}
	return int(sum.Int64()), api.OK
}

func TestP4_4Sum(t *testing.T) {
	f := stepOf([]int{3, 5, 7, 10}, []int{7, -2, 7, 0})
	half := stepOf([]int{1, 2, 3}, []int{api.MaxSum / 2, -api.MaxSum / 2, 0})
	whole := of(1, api.MaxDay+1)
	// Each of its days has so much that all of them together are just not above MaxSum.
	most := api.MaxSum / api.MaxDay
	for _, x := range []struct {
		f    api.Step
		s    api.Span
		want int
		e    api.Errno
	}{
		{stepOf([]int{3, 5}, []int{7, 0}), of(1, 10), 14, api.OK}, {f, of(1, 20), 31, api.OK}, {f, of(4, 6), 5, api.OK}, {f, of(1, 3), 0, api.OK}, {f, of(3, 4), 7, api.OK}, {f, of(5, 7), -4, api.OK}, {f, of(9, 10), 7, api.OK}, {f, of(10, 11), 0, api.OK}, {f, whole, 31, api.OK}, {api.Step{}, whole, 0, api.OK},
		{stepOf([]int{api.MaxDay}, []int{9}), whole, 9, api.OK}, {stepOf([]int{1}, []int{9}), whole, 9 * api.MaxDay, api.OK}, {stepOf([]int{1}, []int{-9}), of(api.MaxDay-1, api.MaxDay+1), -18, api.OK},
		{stepOf([]int{1}, []int{most}), whole, most * api.MaxDay, api.OK}, {stepOf([]int{1}, []int{-most}), whole, -most * api.MaxDay, api.OK}, {stepOf([]int{1}, []int{most + 1}), whole, 0, api.ErrOver}, {stepOf([]int{1}, []int{-most - 1}), whole, 0, api.ErrOver},
		{stepOf([]int{5, 6}, []int{api.MaxSum, 0}), whole, api.MaxSum, api.OK}, {stepOf([]int{5, 6}, []int{-api.MaxSum, 0}), whole, -api.MaxSum, api.OK}, {stepOf([]int{5, 7}, []int{api.MaxSum, 0}), whole, 0, api.ErrOver}, {stepOf([]int{5, 7}, []int{api.MaxSum, 0}), of(6, 9), api.MaxSum, api.OK}, {stepOf([]int{5, 7}, []int{api.MaxSum, 0}), of(7, 9), 0, api.OK},
		// Signs are left out where it is held against MaxSum: what is 0 together may be too much.
		{half, whole, 0, api.OK}, {stepOf([]int{1, 2, 3}, []int{api.MaxSum, -api.MaxSum, 0}), whole, 0, api.ErrOver}, {stepOf([]int{1, 2, 3}, []int{api.MaxSum, -1, 0}), whole, 0, api.ErrOver}, {stepOf([]int{1, 2, 3}, []int{1, -api.MaxSum, 0}), whole, 0, api.ErrOver}, {stepOf([]int{1, 2, 3}, []int{api.MaxSum - 1, -1, 0}), whole, api.MaxSum - 2, api.OK}, {stepOf([]int{1, 2, 4}, []int{api.MaxSum - 1, -1, 0}), whole, 0, api.ErrOver},
		// Products that go round to something small, or to 0: 2 to the 46th, on 2 to the 18th days, are 2 to the 64th.
		{stepOf([]int{1, 1 + 1<<18}, []int{1 << 46, 0}), whole, 0, api.ErrOver}, {stepOf([]int{1, 1 + 1<<18}, []int{-1 << 46, 0}), whole, 0, api.ErrOver}, {stepOf([]int{1, 1 + 1<<18}, []int{1<<46 + 1, 0}), whole, 0, api.ErrOver}, {stepOf([]int{1, 5}, []int{1 << 61, 0}), whole, 0, api.ErrOver}, {stepOf([]int{1, 9}, []int{1 << 61, 0}), whole, 0, api.ErrOver}, {stepOf([]int{1}, []int{api.MaxSum}), whole, 0, api.ErrOver}, {stepOf([]int{1}, []int{-api.MaxSum}), whole, 0, api.ErrOver},
	} {
		if got, e := step.Sum(x.f, x.s); got != x.want || e != x.e {
			t.Errorf("Sum(%v, %v): %d, %d; want %d, %d", x.f, x.s, got, e, x.want, x.e)
		}
	}
}

func TestP4_4P4_5OfWhatIsWrong(t *testing.T) {
	check := func(f api.Step, s api.Span) {
		t.Helper()
		if n, e := step.Sum(f, s); n != 0 || e != api.ErrArg {
			t.Errorf("Sum(%v, %v): %d, %d", f, s, n, e)
		}
		if spans, values := step.Pieces(f, s); len(spans) != 0 || len(values) != 0 {
			t.Errorf("Pieces(%v, %v): %v, %v", f, s, spans, values)
		}
	}
	for _, f := range wrongSteps() {
		for _, s := range append(wrongSpans(), of(1, 2), of(1, api.MaxDay+1)) {
			check(f, s)
		}
	}
	for _, s := range wrongSpans() {
		for _, f := range []api.Step{{}, stepOf([]int{3, 5}, []int{7, 0}), stepOf([]int{1}, []int{api.MaxSum})} {
			check(f, s)
		}
	}
}

func TestP4_5Pieces(t *testing.T) {
	f := stepOf([]int{3, 5, 7, 10}, []int{7, -2, 7, 0})
	for _, x := range []struct {
		f      api.Step
		s      api.Span
		spans  []api.Span
		values []int
	}{
		{f, of(4, 12), []api.Span{of(4, 5), of(5, 7), of(7, 10), of(10, 12)}, []int{7, -2, 7, 0}}, {f, of(1, 3), []api.Span{of(1, 3)}, []int{0}}, {f, of(1, 4), []api.Span{of(1, 3), of(3, 4)}, []int{0, 7}}, {f, of(3, 5), []api.Span{of(3, 5)}, []int{7}}, {f, of(5, 6), []api.Span{of(5, 6)}, []int{-2}}, {f, of(8, 9), []api.Span{of(8, 9)}, []int{7}},
		{f, of(10, 11), []api.Span{of(10, 11)}, []int{0}}, {f, of(1, api.MaxDay+1), []api.Span{of(1, 3), of(3, 5), of(5, 7), of(7, 10), of(10, api.MaxDay+1)}, []int{0, 7, -2, 7, 0}}, {api.Step{}, of(1, api.MaxDay+1), []api.Span{of(1, api.MaxDay+1)}, []int{0}},
		{stepOf([]int{1, api.MaxDay}, []int{4, 5}), of(1, api.MaxDay+1), []api.Span{of(1, api.MaxDay), of(api.MaxDay, api.MaxDay+1)}, []int{4, 5}}, {stepOf([]int{api.MaxDay}, []int{5}), of(api.MaxDay, api.MaxDay+1), []api.Span{of(api.MaxDay, api.MaxDay+1)}, []int{5}}, {stepOf([]int{api.MaxDay}, []int{5}), of(1, api.MaxDay), []api.Span{of(1, api.MaxDay)}, []int{0}},
	} {
		if spans, values := step.Pieces(x.f, x.s); !slices.Equal(spans, x.spans) || !slices.Equal(values, x.values) {
			t.Errorf("Pieces(%v, %v): %v, %v; want %v, %v", x.f, x.s, spans, values, x.spans, x.values)
		}
	}
}

// checkPieces holds Pieces, and Sum, against the values on each day of s.
func checkPieces(t *testing.T, f api.Step, s api.Span) {
	t.Helper()
	given := clone(f)
	var spans []api.Span
	var values []int
	for day := s.From; isFull(s) && day < s.To; day++ {
		v := valueAt(f, day)
		if last := len(values) - 1; last >= 0 && values[last] == v {
			spans[last].To = day + 1
		} else {
			spans, values = append(spans, of(day, day+1)), append(values, v)
		}
	}
	gotSpans, gotValues := step.Pieces(f, s)
	if !slices.Equal(gotSpans, spans) || !slices.Equal(gotValues, values) {
		t.Errorf("Pieces(%v, %v): %v, %v; want %v, %v", f, s, gotSpans, gotValues, spans, values)
	}
	want, code := sumOf(f, s)
	if got, e := step.Sum(f, s); got != want || e != code {
		t.Errorf("Sum(%v, %v): %d, %d; want %d, %d", f, s, got, e, want, code)
	}
	if !same(f, given) {
		t.Errorf("Pieces or Sum changed %v to %v", given, f)
	}
}

func TestP4_4P4_5OfAllSmallSteps(t *testing.T) {
	for _, f := range stepsOf(1, 5, []int{0, 2, -3}) {
		for _, s := range spansOf(numbers(0, 8)) {
			checkPieces(t, f, s)
		}
	}
	for _, f := range stepsOf(api.MaxDay-3, 4, []int{0, 1, api.MaxSum / 2, -api.MaxSum / 2, api.MaxSum}) {
		for _, s := range spansOf(numbers(api.MaxDay-5, api.MaxDay+2)) {
			checkPieces(t, f, s)
		}
	}
}

// randomStep is a step of n days at most that change, of values up to most, and of either sign.
func randomStep(source *rand.Rand, n, high, most int) api.Step {
	days := make([]int, high)
	v := 0
	for range source.Intn(n + 1) {
		from := source.Intn(high)
		v = source.Intn(2*most+1) - most
		for day := from; day < high && day < from+20; day++ {
			days[day] = v
		}
	}
	return fromDays(1, days)
}

func TestP4_2ToP4_6OfManyChanges(t *testing.T) {
	source := rand.New(rand.NewSource(4))
	for _, most := range []int{2, 9, api.MaxSum / 100, api.MaxSum / 3, api.MaxSum} {
		for range 150 {
			f, g := randomStep(source, 30, 300, most), randomStep(source, 30, 300, most)
			from := source.Intn(250) + 1
			s := of(from, from+source.Intn(90)-3)
			checkSet(t, f, s, source.Intn(2*most+1)-most, 1, 360)
			checkAdd(t, f, g, 1, 360)
			checkPieces(t, f, s)
		}
	}
}

func TestP4_6SameValuesSameStep(t *testing.T) {
	source := rand.New(rand.NewSource(6))
	for range 300 {
		values := make([]int, 40)
		for i := range values {
			values[i] = source.Intn(5) - 2
		}
		want := fromDays(1, append(slices.Clone(values), 0))
		// One is set day by day in any order, over what was there; the other is steps of one day each, added.
		set := step.Set(api.Step{}, of(source.Intn(20)+1, 30), source.Intn(5)-2)
		var sum api.Step
		for _, i := range source.Perm(len(values)) {
			day := of(i+1, i+2)
			set = step.Set(set, day, values[i])
			sum, _ = step.Add(step.Set(api.Step{}, day, values[i]), sum)
		}
		if !same(set, want) || !same(sum, want) {
			t.Fatalf("%v: set %v, added %v; want %v", values, set, sum, want)
		}
	}
}

func TestP4_2ToP4_5OfEveryDay(t *testing.T) {
	f := stepOf(numbers(1, api.MaxDay), make([]int, api.MaxDay))
	g := clone(f)
	for i := range f.Val {
		f.Val[i] = 1 + i%2
		g.Val[i] = 2 - i%2
	}
	if !step.Right(f) {
		t.Fatal("a step that changes on each day isn't right")
	}
	whole := of(1, api.MaxDay+1)
	if n, e := step.Sum(f, whole); n != api.MaxDay/2*3 || e != api.OK {
		t.Errorf("Sum: %d, %d", n, e)
	}
	if spans, values := step.Pieces(f, whole); len(spans) != api.MaxDay || spans[api.MaxDay-1] != of(api.MaxDay, api.MaxDay+1) || !slices.Equal(values, f.Val) {
		t.Errorf("Pieces: %d", len(spans))
	}
	if got, e := step.Add(f, g); !same(got, stepOf([]int{1}, []int{3})) || e != api.OK {
		t.Errorf("Add: %d changes, %d", len(got.At), e)
	}
	if got := step.Set(f, whole, 5); !same(got, stepOf([]int{1}, []int{5})) {
		t.Errorf("Set: %d changes", len(got.At))
	}
}

func TestP4_2ToP4_5AnswersAreNewMemory(t *testing.T) {
	f := stepOf([]int{3, 5, 9}, []int{7, 0, 2})
	given := clone(f)
	sum, _ := step.Add(f, api.Step{})
	turned, _ := step.Add(api.Step{}, f)
	for _, got := range []api.Step{step.Set(f, of(4, 4), 1), step.Set(f, of(4, 6), api.MaxSum+1), step.Set(f, of(3, 5), 7), step.Set(f, of(20, 30), 1), sum, turned} {
		for i := range got.At {
			got.At[i], got.Val[i] = -1, -1
		}
	}
	spans, values := step.Pieces(f, of(1, 10))
	spans[0], values[0] = of(-1, -1), -1
	if !same(f, given) {
		t.Errorf("an answer shares memory with what was handed in: %v", f)
	}
	// What stands behind the end of a list that is handed in isn't the call's either.
	ats, vals := []int{3, 5, 9}, []int{7, 0, 2}
	short := stepOf(ats[:1], vals[:1])
	step.Set(short, of(20, 30), 1)
	step.Add(short, stepOf([]int{4, 8}, []int{1, 2}))
	grown := step.Set(short, of(4, 4), 1)
	_, _ = append(grown.At, 77), append(grown.Val, 77)
	if !slices.Equal(ats, []int{3, 5, 9}) || !slices.Equal(vals, []int{7, 0, 2}) {
		t.Errorf("what stands behind a list was written into: %v, %v", ats, vals)
	}
}
