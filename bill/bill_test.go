package bill_test

import (
	"math"
	"math/big"
	"math/rand"
	"slices"
	"strconv"
	"testing"
	"time"

	"bordereau/api"
	"bordereau/bill"
)

const (
	maxDay = 292194
	maxSum = 4000000000000000000
)

func of(from, to int) api.Span { return api.Span{From: from, To: to} }

// oddDays are numbers at both ends of the calendar, and such as are no days.
func oddDays() []int {
	return []int{math.MinInt, math.MinInt + 1, -1 << 32, -1, 0, 1, 2, maxDay - 1, maxDay, maxDay + 1, maxDay + 2, 1<<32 + 1, math.MaxInt - 1, math.MaxInt}
}

// row is bills by their Dues, Amts and Paids, one bill each three numbers.
func row(l ...int) []api.Bill {
	var bills []api.Bill
	for i := 0; i < len(l); i += 3 {
		bills = append(bills, api.Bill{Due: l[i], Amt: l[i+1], Paid: l[i+2]})
	}
	return bills
}

// many is so many bills, one behind the other.
func many(n int) []api.Bill {
	bills := make([]api.Bill, n)
	for i := range bills {
		bills[i] = api.Bill{Due: 1 + i, Amt: 2, Paid: i % 3}
	}
	return bills
}

// quarters is the plan of the chapter's example, of which 60 are paid.
func quarters() []api.Bill {
	return row(1, 25, 25, 91, 25, 25, 182, 25, 10, 274, 25, 0)
}

// wrong is lists that are not right, each by one thing.
func wrong() map[string][]api.Bill {
	l := map[string][]api.Bill{
		"101 bills":                     many(101),
		"due on day 0":                  row(0, 5, 1),
		"due on day -1":                 row(-1, 5, 1),
		"due on no day":                 row(math.MinInt, 5, 1),
		"due behind the last day":       row(maxDay+1, 5, 1),
		"due far behind":                row(math.MaxInt, 5, 1),
		"the second due behind":         row(5, 5, 1, maxDay+1, 5, 1),
		"Dues that fall":                row(5, 5, 1, 4, 5, 1),
		"Dues that fall at the end":     row(5, 5, 1, 6, 5, 1, 6, 5, 1, 5, 5, 1),
		"Dues that fall, and rise":      row(5, 5, 1, 3, 5, 1, 9, 5, 1),
		"paid below 0":                  row(5, 5, -1),
		"paid far below 0":              row(5, 5, math.MinInt),
		"more paid than it is":          row(5, 5, 6),
		"more paid of nothing":          row(5, 0, 1),
		"more paid, and less":           row(5, 5, 6, 6, 5, 0),
		"paid below 0, and above":       row(5, 5, -1, 6, 5, 2),
		"below 0":                       row(5, -1, 0),
		"below 0, and paid so":          row(5, -1, -1),
		"below 0, and above":            row(5, -1, -1, 6, 9, 0),
		"far below 0":                   row(5, math.MinInt, math.MinInt),
		"more than MaxSum":              row(5, maxSum+1, 0),
		"the greatest int":              row(5, math.MaxInt, math.MaxInt),
		"more than MaxSum by two":       row(5, maxSum, 0, 5, 1, 0),
		"more than MaxSum by the first": row(5, 1, 0, 5, maxSum, 0),
		"MaxSum three times":            row(5, maxSum, 0, 6, maxSum, 0, 7, maxSum, 0),
		"a sum that goes round to 0":    row(5, math.MaxInt, 0, 6, math.MaxInt, 0, 7, 2, 0),
		"a sum that goes round":         row(5, maxSum, 0, 6, maxSum, 0, 7, maxSum, 0, 8, maxSum, 0, 9, maxSum, 0),
	}
	for place := range 100 {
		l["no day at place "+strconv.Itoa(place)] = slices.Concat(many(place), row(maxDay+1, 5, 1))
	}
	return l
}

// right tells by the chapter's words, one by one, whether bills are.
func right(l []api.Bill) bool {
	if len(l) > 100 {
		return false
	}
	all := new(big.Int)
	for i, b := range l {
		if b.Due < 1 || b.Due > maxDay || i > 0 && b.Due < l[i-1].Due {
			return false
		}
		if !(0 <= b.Paid && b.Paid <= b.Amt) {
			return false
		}
		all.Add(all, big.NewInt(int64(b.Amt)))
	}
	return all.Cmp(big.NewInt(maxSum)) <= 0
}

// equally is an amount, dealt out in so many parts, each 1: what is dealt up to each part, rounded down, less what was dealt ahead of it.
func equally(amt, n int) []int {
	upto := func(i int) int {
		all := new(big.Int).Mul(big.NewInt(int64(amt)), big.NewInt(int64(i)))
		return int(all.Div(all, big.NewInt(int64(n))).Int64())
	}
	var parts []int
	for i := range n {
		parts = append(parts, upto(i+1)-upto(i))
	}
	return parts
}

// shifted is the day that is so many months behind one, by the library's calendar, and whether there is one.
func shifted(n, months int) (int, bool) {
	y, m, d := time.Date(1601, 1, n, 0, 0, 0, 0, time.UTC).Date()
	last := time.Date(y, m+time.Month(months)+1, 0, 0, 0, 0, 0, time.UTC)
	if last.Year() > 2400 {
		return 0, false
	}
	then := last.AddDate(0, 0, min(d, last.Day())-last.Day())
	return int((then.Unix()-time.Date(1601, 1, 1, 0, 0, 0, 0, time.UTC).Unix())/86400) + 1, true
}

// planned tells by the chapter's words what a plan is.
func planned(amt int, s api.Span, n int) ([]api.Bill, api.Errno) {
	if amt < 0 || amt > maxSum || !slices.Contains([]int{1, 2, 4, 12}, n) || s.From < 1 || s.From >= s.To || s.To > maxDay+1 {
		return nil, api.ErrArg
	}
	parts := equally(amt, n)
	var l []api.Bill
	for i := range n {
		due, there := shifted(s.From, i*12/n)
		if !there {
			return nil, api.ErrDay
		}
		l = append(l, api.Bill{Due: due, Amt: parts[i]})
	}
	return l, api.OK
}

// turned tells by the chapter's words what right bills are turned to.
func turned(l []api.Bill, amt, day int) ([]api.Bill, api.Errno) {
	rest, paid := amt, 0
	var next []api.Bill
	var later []api.Bill
	for _, b := range l {
		if b.Due <= day {
			rest -= b.Amt
			next = append(next, b)
		} else {
			paid += b.Paid
			later = append(later, b)
		}
	}
	switch {
	case len(later) == 0 && rest == 0:
		return l, api.OK
	case len(later) == 0:
		return nil, api.ErrState
	case rest < paid:
		return nil, api.ErrBound
	}
	parts := equally(rest-paid, len(later))
	for i, b := range later {
		next = append(next, api.Bill{Due: b.Due, Amt: b.Paid + parts[i], Paid: b.Paid})
	}
	return next, api.OK
}

// anyBills is right bills of few days and small amounts, paid in any order.
func anyBills(r *rand.Rand) []api.Bill {
	var l []api.Bill
	due := []int{1, 2, 1000, maxDay - 20}[r.Intn(4)]
	for range r.Intn(7) {
		amt := r.Intn(12)
		l = append(l, api.Bill{Due: due, Amt: amt, Paid: r.Intn(amt + 1)})
		due += r.Intn(4)
	}
	return l
}

// greatBills is right bills whose amounts come near to MaxSum.
func greatBills(r *rand.Rand) []api.Bill {
	left := maxSum - r.Intn(2)*r.Intn(maxSum)
	var l []api.Bill
	due := 1 + r.Intn(1000)
	for range 1 + r.Intn(12) {
		amt := r.Intn(left + 1)
		if r.Intn(6) == 0 {
			amt = left
		}
		l = append(l, api.Bill{Due: due, Amt: amt, Paid: r.Intn(amt + 1)})
		left -= amt
		due += r.Intn(60)
	}
	return l
}

// daysAt are days at the Dues of bills and next to them, and odd ones.
func daysAt(l []api.Bill) []int {
	days := oddDays()
	for _, b := range l {
		days = append(days, b.Due-1, b.Due, b.Due+1)
	}
	return days
}

func amount(l []api.Bill) int {
	all := 0
	for _, b := range l {
		all += b.Amt
	}
	return all
}

func paid(l []api.Bill) int {
	all := 0
	for _, b := range l {
		all += b.Paid
	}
	return all
}

// roomy is bills in a list that has more of them behind its end, which tells whether these are written into.
func roomy(l []api.Bill) (list, all []api.Bill) {
	all = slices.Concat(l, row(7, 7, 7, 8, 8, 8))
	return all[:len(l)], all
}

func checkPlan(t *testing.T, name string, amt int, s api.Span, n int, want []api.Bill, wantCode api.Errno) {
	t.Helper()
	if l, code := bill.Plan(amt, s, n); !slices.Equal(l, want) || code != wantCode {
		t.Errorf("%s: Plan(%d, %v, %d): %v, code %d; want %v, code %d", name, amt, s, n, l, code, want, wantCode)
	}
}

// checkPay asks Pay, and whether it wrote into its list, or shares it.
func checkPay(t *testing.T, name string, l []api.Bill, amt int, want []api.Bill, wantLeft int) {
	t.Helper()
	list, all := roomy(l)
	before := slices.Clone(all)
	m, left := bill.Pay(list, amt)
	if !slices.Equal(m, want) || left != wantLeft {
		t.Errorf("%s: Pay(%v, %d): %v, %d left; want %v, %d left", name, l, amt, m, left, want, wantLeft)
	}
	spoil(m)
	if !slices.Equal(all, before) {
		t.Errorf("%s: Pay(%v, %d) changed its list to %v", name, l, amt, all)
	}
}

func checkOpen(t *testing.T, name string, l []api.Bill, day, want int) {
	t.Helper()
	list, all := roomy(l)
	before := slices.Clone(all)
	if n := bill.Open(list, day); n != want {
		t.Errorf("%s: Open(%v, %d): %d; want %d", name, l, day, n, want)
	}
	if !slices.Equal(all, before) {
		t.Errorf("%s: Open(%v, %d) changed its list to %v", name, l, day, all)
	}
}

// checkTurned asks Turned, and whether it wrote into its list, or shares it.
func checkTurned(t *testing.T, name string, l []api.Bill, amt, day int, want []api.Bill, wantCode api.Errno) {
	t.Helper()
	list, all := roomy(l)
	before := slices.Clone(all)
	m, code := bill.Turned(list, amt, day)
	if !slices.Equal(m, want) || code != wantCode {
		t.Errorf("%s: Turned(%v, %d, %d): %v, code %d; want %v, code %d", name, l, amt, day, m, code, want, wantCode)
	}
	spoil(m)
	if !slices.Equal(all, before) {
		t.Errorf("%s: Turned(%v, %d, %d) changed its list to %v", name, l, amt, day, all)
	}
}

// spoil writes into all that a list has, and behind its end.
func spoil(l []api.Bill) {
	l = l[:cap(l)]
	for i := range l {
		l[i] = api.Bill{Due: -9, Amt: -9, Paid: -9}
	}
}

func plan(t *testing.T, amt int, s api.Span, n int) []api.Bill {
	t.Helper()
	l, code := bill.Plan(amt, s, n)
	if code != api.OK {
		t.Fatalf("Plan(%d, %v, %d): code %d", amt, s, n, code)
	}
	return l
}

func TestP16_1Right(t *testing.T) {
	for name, l := range map[string][]api.Bill{
		"none":                   nil,
		"an empty list":          {},
		"nothing, on day 1":      row(1, 0, 0),
		"on the last day":        row(maxDay, 5, 5),
		"both ends":              row(1, 5, 0, maxDay, 5, 5),
		"on one day":             row(5, 5, 0, 5, 0, 0, 5, 5, 5),
		"a later one is paid":    row(5, 5, 0, 6, 5, 5),
		"MaxSum":                 row(5, maxSum, maxSum),
		"MaxSum, and nothing":    row(5, maxSum, 0, 6, 0, 0),
		"MaxSum by two":          row(5, maxSum-1, 0, 6, 1, 1),
		"100 bills":              many(100),
		"the chapter's":          quarters(),
		"100 of MaxSum in all":   slices.Repeat(row(5, maxSum/100, 7), 100),
		"100 bills on one day":   slices.Repeat(row(maxDay, 0, 0), 100),
		"a cent paid of MaxSum":  row(maxDay, maxSum, 1),
		"all but a cent of five": row(3, 5, 4, 3, 5, 5),
	} {
		if !bill.Right(l) {
			t.Errorf("%s: not right: %v", name, l)
		}
	}
	for name, l := range wrong() {
		if bill.Right(l) {
			t.Errorf("%s: right: %v", name, l)
		}
	}
	if bill.Right(append(slices.Repeat(row(5, maxSum/100, 7), 99), row(5, maxSum/100+1, 0)...)) {
		t.Error("100 of MaxSum and a cent in all: right")
	}
}

func TestP16_1RightOfAny(t *testing.T) {
	r := rand.New(rand.NewSource(161))
	dues := []int{0, 1, 1, 2, 2, 3, 3, 4, maxDay, maxDay, maxDay + 1}
	amts := []int{-1, 0, 0, 1, 2, 3, maxSum / 2, maxSum - 1, maxSum, maxSum + 1, math.MaxInt}
	seen := map[bool]int{}
	for range 100000 {
		var l []api.Bill
		for range r.Intn(4) {
			l = append(l, api.Bill{Due: dues[r.Intn(len(dues))], Amt: amts[r.Intn(len(amts))], Paid: amts[r.Intn(4)]})
		}
		want := right(l)
		if bill.Right(l) != want {
			t.Fatalf("Right(%v): %v", l, !want)
		}
		if len(l) > 1 {
			seen[want]++
		}
	}
	if seen[true] < 100 || seen[false] < 100 {
		t.Errorf("too few that are right, or not: %v", seen)
	}
}

func TestP16_1Plan(t *testing.T) {
	year := of(1, 366)
	checkPlan(t, "the chapter's", 100, year, 4, row(1, 25, 0, 91, 25, 0, 182, 25, 0, 274, 25, 0), api.OK)
	checkPlan(t, "at once", 100, year, 1, row(1, 100, 0), api.OK)
	checkPlan(t, "by halves", 5, year, 2, row(1, 2, 0, 182, 3, 0), api.OK)
	checkPlan(t, "by months", 30, year, 12, row(1, 2, 0, 32, 3, 0, 60, 2, 0, 91, 3, 0, 121, 2, 0, 152, 3, 0, 182, 2, 0, 213, 3, 0, 244, 2, 0, 274, 3, 0, 305, 2, 0, 335, 3, 0), api.OK)
	checkPlan(t, "from a month's end", 12, of(31, 40), 12, row(31, 1, 0, 59, 1, 0, 90, 1, 0, 120, 1, 0, 151, 1, 0, 181, 1, 0, 212, 1, 0, 243, 1, 0, 273, 1, 0, 304, 1, 0, 334, 1, 0, 365, 1, 0), api.OK)
	checkPlan(t, "nothing", 0, year, 4, row(1, 0, 0, 91, 0, 0, 182, 0, 0, 274, 0, 0), api.OK)
	checkPlan(t, "a cent", 1, year, 4, row(1, 0, 0, 91, 0, 0, 182, 0, 0, 274, 1, 0), api.OK)
	checkPlan(t, "MaxSum", maxSum, year, 1, row(1, maxSum, 0), api.OK)
	checkPlan(t, "MaxSum by quarters", maxSum, year, 4, row(1, maxSum/4, 0, 91, maxSum/4, 0, 182, maxSum/4, 0, 274, maxSum/4, 0), api.OK)
	checkPlan(t, "less than MaxSum", maxSum-1, year, 2, row(1, maxSum/2-1, 0, 182, maxSum/2, 0), api.OK)
	checkPlan(t, "a span of one day", 8, of(1, 2), 4, row(1, 2, 0, 91, 2, 0, 182, 2, 0, 274, 2, 0), api.OK)
	checkPlan(t, "all days", 8, of(1, maxDay+1), 2, row(1, 4, 0, 182, 4, 0), api.OK)
	checkPlan(t, "the last day", 8, of(maxDay, maxDay+1), 1, row(maxDay, 8, 0), api.OK)
}

func TestP16_1PlanCodes(t *testing.T) {
	for _, n := range []int{math.MinInt, -12, -4, -2, -1, 0, 3, 5, 6, 7, 8, 9, 10, 11, 13, 24, 100, 1<<32 + 1, 1<<32 + 12, math.MaxInt} {
		checkPlan(t, "so many", 100, of(1, 366), n, nil, api.ErrArg)
		checkPlan(t, "so many, from the last day on", 100, of(maxDay, maxDay+1), n, nil, api.ErrArg)
	}
	for _, amt := range []int{math.MinInt, -maxSum, -1, maxSum + 1, math.MaxInt} {
		for _, n := range []int{1, 2, 4, 12} {
			checkPlan(t, "so much", amt, of(1, 366), n, nil, api.ErrArg)
			checkPlan(t, "so much, from the last day on", amt, of(maxDay, maxDay+1), n, nil, api.ErrArg)
		}
	}
	for _, s := range []api.Span{{}, of(0, 5), of(-1, 5), of(1, 1), of(5, 5), of(5, 4), of(5, maxDay+2), of(maxDay+1, maxDay+1), of(maxDay+1, maxDay+2), of(maxDay, maxDay+2), of(math.MinInt, math.MaxInt), of(math.MaxInt, math.MinInt), of(1, math.MaxInt), of(math.MinInt, 5)} {
		for _, n := range []int{1, 2, 4, 12} {
			checkPlan(t, "such days", 100, s, n, nil, api.ErrArg)
		}
	}
	const lastYear = maxDay - 365
	checkPlan(t, "at once, on the last day", 9, of(maxDay, maxDay+1), 1, row(maxDay, 9, 0), api.OK)
	checkPlan(t, "halves, from 2400-06-30 on", 9, of(lastYear+181, maxDay+1), 2, row(lastYear+181, 4, 0, maxDay-1, 5, 0), api.OK)
	checkPlan(t, "halves, from 2400-07-01 on", 9, of(lastYear+182, maxDay+1), 2, nil, api.ErrDay)
	checkPlan(t, "quarters, from 2400-03-31 on", 9, of(lastYear+90, maxDay+1), 4, row(lastYear+90, 2, 0, lastYear+181, 2, 0, lastYear+273, 2, 0, maxDay, 3, 0), api.OK)
	checkPlan(t, "quarters, from 2400-04-01 on", 9, of(lastYear+91, maxDay+1), 4, nil, api.ErrDay)
	checkPlan(t, "months, from 2400-01-31 on", 0, of(lastYear+30, maxDay+1), 12, row(lastYear+30, 0, 0, lastYear+59, 0, 0, lastYear+90, 0, 0, lastYear+120, 0, 0, lastYear+151, 0, 0, lastYear+181, 0, 0, lastYear+212, 0, 0, lastYear+243, 0, 0, lastYear+273, 0, 0, lastYear+304, 0, 0, lastYear+334, 0, 0, maxDay, 0, 0), api.OK)
	checkPlan(t, "months, from 2400-02-01 on", 9, of(lastYear+31, maxDay+1), 12, nil, api.ErrDay)
}

func TestP16_1PlanOfAllDays(t *testing.T) {
	for _, days := range [][2]int{{1, 1500}, {72000, 73500}, {145000, 146500}, {maxDay - 1500, maxDay}} {
		for from := days[0]; from <= days[1]; from++ {
			for _, n := range []int{1, 2, 4, 12} {
				s := of(from, from+1)
				want, code := planned(from, s, n)
				checkPlan(t, "from each day on", from, s, n, want, code)
			}
		}
	}
	r := rand.New(rand.NewSource(1612))
	for range 3000 {
		from := 1 + r.Intn(maxDay)
		amt, s, n := r.Intn(maxSum+1), of(from, from+1+r.Intn(maxDay+1-from)), []int{1, 2, 4, 12}[r.Intn(4)]
		want, code := planned(amt, s, n)
		checkPlan(t, "any", amt, s, n, want, code)
	}
}

func TestP16_1PlanOfAnyNumbers(t *testing.T) {
	r := rand.New(rand.NewSource(1613))
	odd := append(oddDays(), 4, 12, maxSum, maxSum+1)
	pick := func() int { return odd[r.Intn(len(odd))] }
	for range 20000 {
		amt, s, n := pick(), of(pick(), pick()), pick()
		want, code := planned(amt, s, n)
		checkPlan(t, "any", amt, s, n, want, code)
	}
}

// What a plan answered isn't written into by a later one.
func TestP16_1Memory(t *testing.T) {
	l := plan(t, 100, of(1, 366), 4)
	before := slices.Clone(l)
	spoil(plan(t, 100, of(1, 366), 4))
	if !slices.Equal(l, before) {
		t.Errorf("a later plan made %v of %v", l, before)
	}
}

func TestP16_2Pay(t *testing.T) {
	l := plan(t, 100, of(1, 366), 4)
	checkPay(t, "the chapter's", l, 60, quarters(), 0)
	checkPay(t, "nothing", l, 0, l, 0)
	checkPay(t, "a cent", l, 1, row(1, 25, 1, 91, 25, 0, 182, 25, 0, 274, 25, 0), 0)
	checkPay(t, "the first", l, 25, row(1, 25, 25, 91, 25, 0, 182, 25, 0, 274, 25, 0), 0)
	checkPay(t, "the first, and a cent", l, 26, row(1, 25, 25, 91, 25, 1, 182, 25, 0, 274, 25, 0), 0)
	checkPay(t, "all", l, 100, row(1, 25, 25, 91, 25, 25, 182, 25, 25, 274, 25, 25), 0)
	checkPay(t, "all but a cent", l, 99, row(1, 25, 25, 91, 25, 25, 182, 25, 25, 274, 25, 24), 0)
	checkPay(t, "more than all", l, 107, row(1, 25, 25, 91, 25, 25, 182, 25, 25, 274, 25, 25), 7)
	checkPay(t, "more, of what is paid in part", quarters(), 47, row(1, 25, 25, 91, 25, 25, 182, 25, 25, 274, 25, 25), 7)
	checkPay(t, "some, of what is paid in part", quarters(), 20, row(1, 25, 25, 91, 25, 25, 182, 25, 25, 274, 25, 5), 0)
	checkPay(t, "no bills", nil, 5, nil, 5)
	checkPay(t, "no bills, and nothing", nil, 0, nil, 0)
	checkPay(t, "bills of nothing", row(3, 0, 0, 4, 0, 0), 5, row(3, 0, 0, 4, 0, 0), 5)
	checkPay(t, "paid from behind", row(3, 5, 0, 4, 5, 5, 5, 5, 2), 7, row(3, 5, 5, 4, 5, 5, 5, 5, 4), 0)
	checkPay(t, "on one day", row(3, 5, 4, 3, 0, 0, 3, 5, 3), 2, row(3, 5, 5, 3, 0, 0, 3, 5, 4), 0)
	checkPay(t, "MaxSum", row(3, maxSum, 0), maxSum, row(3, maxSum, maxSum), 0)
	checkPay(t, "the greatest int", row(3, maxSum, 0), math.MaxInt, row(3, maxSum, maxSum), math.MaxInt-maxSum)
	checkPay(t, "100 bills", slices.Repeat(row(3, 2, 0), 100), 151, slices.Concat(slices.Repeat(row(3, 2, 2), 75), row(3, 2, 1), slices.Repeat(row(3, 2, 0), 24)), 0)
}

func TestP16_2Wrong(t *testing.T) {
	for _, amt := range []int{math.MinInt, -1 << 32, -25, -5, -1} {
		checkPay(t, "below 0", quarters(), amt, quarters(), amt)
		checkPay(t, "below 0, of nothing", nil, amt, nil, amt)
	}
	for name, l := range wrong() {
		for _, amt := range []int{math.MinInt, -1, 0, 1, 5, maxSum, math.MaxInt} {
			checkPay(t, name, l, amt, l, amt)
		}
	}
}

// payCents pays cent by cent: each goes to the first bill that isn't paid.
func payCents(l []api.Bill, amt int) ([]api.Bill, int) {
	l = slices.Clone(l)
	for amt > 0 {
		i := slices.IndexFunc(l, func(b api.Bill) bool { return b.Paid < b.Amt })
		if i < 0 {
			break
		}
		l[i].Paid++
		amt--
	}
	return l, amt
}

func TestP16_2OfAny(t *testing.T) {
	r := rand.New(rand.NewSource(162))
	for range 20000 {
		l, amt := anyBills(r), r.Intn(60)
		want, left := payCents(l, amt)
		checkPay(t, "any", l, amt, want, left)
	}
}

func TestP16_3Open(t *testing.T) {
	l := quarters()
	for day, want := range map[int]int{math.MinInt: 0, -1: 0, 0: 0, 1: 0, 90: 0, 91: 0, 181: 0, 182: 15, 183: 15, 273: 15, 274: 40, 275: 40, maxDay: 40, maxDay + 1: 40, math.MaxInt: 40} {
		checkOpen(t, "the chapter's", l, day, want)
	}
	l = plan(t, 100, of(1, 366), 4)
	for day, want := range map[int]int{0: 0, 1: 25, 90: 25, 91: 50, 181: 50, 182: 75, 273: 75, 274: 100, math.MaxInt: 100} {
		checkOpen(t, "of which nothing is paid", l, day, want)
	}
	l = row(5, 9, 2, 5, 4, 4, 5, 3, 0, 6, 8, 8, 7, 1, 0)
	for day, want := range map[int]int{4: 0, 5: 10, 6: 10, 7: 11} {
		checkOpen(t, "on one day", l, day, want)
	}
	for _, day := range oddDays() {
		checkOpen(t, "none", nil, day, 0)
		for name, l := range wrong() {
			checkOpen(t, name, l, day, 0)
		}
	}
	checkOpen(t, "on the last day", row(maxDay, 9, 2), maxDay-1, 0)
	checkOpen(t, "on the last day", row(maxDay, 9, 2), maxDay, 7)
	checkOpen(t, "MaxSum", row(3, maxSum-1, 0, 4, 1, 0), 4, maxSum)
	checkOpen(t, "MaxSum, all paid", row(3, maxSum-1, maxSum-1, 4, 1, 1), 4, 0)
	checkOpen(t, "100 bills", slices.Repeat(row(3, 2, 1), 100), 3, 100)
}

func TestP16_3OfAny(t *testing.T) {
	r := rand.New(rand.NewSource(163))
	for range 2000 {
		l := anyBills(r)
		if r.Intn(2) == 0 {
			l = greatBills(r)
		}
		for _, day := range daysAt(l) {
			open := 0
			for _, b := range l {
				if b.Due <= day {
					open += b.Amt - b.Paid
				}
			}
			checkOpen(t, "any", l, day, open)
		}
	}
}

func TestP16_4Turned(t *testing.T) {
	l := quarters()
	for name, x := range map[string]struct {
		amt, day int
		want     []int
		code     api.Errno
	}{
		"more":                              {120, 100, []int{25, 25, 40, 30}, api.OK},
		"as much":                           {100, 100, []int{25, 25, 30, 20}, api.OK},
		"less":                              {90, 100, []int{25, 25, 25, 15}, api.OK},
		"as much as is paid":                {60, 100, []int{25, 25, 10, 0}, api.OK},
		"a cent more than is paid":          {61, 100, []int{25, 25, 10, 1}, api.OK},
		"less than is paid":                 {59, 100, nil, api.ErrBound},
		"nothing, of what is paid":          {0, 100, nil, api.ErrBound},
		"less than what stays":              {49, 100, nil, api.ErrBound},
		"on a Due":                          {120, 91, []int{25, 25, 40, 30}, api.OK},
		"ahead of a Due":                    {120, 90, []int{25, 45, 30, 20}, api.OK},
		"ahead of all":                      {120, 0, []int{40, 40, 25, 15}, api.OK},
		"ahead of all, less":                {63, 0, []int{25, 26, 11, 1}, api.OK},
		"ahead of all, what is paid":        {60, 0, []int{25, 25, 10, 0}, api.OK},
		"ahead of all, less than paid":      {59, 0, nil, api.ErrBound},
		"on the first":                      {120, 1, []int{25, 45, 30, 20}, api.OK},
		"on the last but one":               {120, 182, []int{25, 25, 25, 45}, api.OK},
		"on the last but one, the least":    {75, 182, []int{25, 25, 25, 0}, api.OK},
		"on the last but one, less":         {74, 182, nil, api.ErrBound},
		"ahead of the last":                 {101, 273, []int{25, 25, 25, 26}, api.OK},
		"on the last, as much":              {100, 274, []int{25, 25, 25, 25}, api.OK},
		"on the last, more":                 {101, 274, nil, api.ErrState},
		"on the last, less":                 {99, 274, nil, api.ErrState},
		"on the last, nothing":              {0, 274, nil, api.ErrState},
		"on the last, MaxSum":               {maxSum, 274, nil, api.ErrState},
		"behind all, as much":               {100, math.MaxInt, []int{25, 25, 25, 25}, api.OK},
		"behind all, less":                  {60, math.MaxInt, nil, api.ErrState},
		"far ahead of all":                  {120, math.MinInt, []int{40, 40, 25, 15}, api.OK},
		"MaxSum":                            {maxSum, 200, []int{25, 25, 25, maxSum - 75}, api.OK},
		"MaxSum, by two":                    {maxSum, 100, []int{25, 25, 10 + maxSum/2 - 30, maxSum/2 - 30}, api.OK},
		"more than MaxSum":                  {maxSum + 1, 200, nil, api.ErrArg},
		"more than MaxSum, behind all":      {maxSum + 1, 300, nil, api.ErrArg},
		"the greatest int":                  {math.MaxInt, 0, nil, api.ErrArg},
		"below 0":                           {-1, 0, nil, api.ErrArg},
		"below 0, behind all":               {-1, 300, nil, api.ErrArg},
		"the least int":                     {math.MinInt, 100, nil, api.ErrArg},
		"the least int, and day":            {math.MinInt, math.MinInt, nil, api.ErrArg},
		"a rest that isn't dealt out whole": {62, 1, []int{25, 25, 11, 1}, api.OK},
	} {
		var want []api.Bill
		for i, amt := range x.want {
			want = append(want, api.Bill{Due: l[i].Due, Amt: amt, Paid: l[i].Paid})
		}
		checkTurned(t, name, l, x.amt, x.day, want, x.code)
	}
}

func TestP16_4Edges(t *testing.T) {
	checkTurned(t, "none", nil, 0, 5, nil, api.OK)
	checkTurned(t, "none, of an empty list", []api.Bill{}, 0, math.MinInt, nil, api.OK)
	checkTurned(t, "more than none", nil, 1, 5, nil, api.ErrState)
	checkTurned(t, "more than none, ahead of all days", nil, 1, math.MinInt, nil, api.ErrState)
	checkTurned(t, "below none", nil, -1, 5, nil, api.ErrArg)
	checkTurned(t, "on one day, all stay", row(5, 9, 2, 5, 4, 4), 13, 5, row(5, 9, 2, 5, 4, 4), api.OK)
	checkTurned(t, "on one day, all stay, of more", row(5, 9, 2, 5, 4, 4), 14, 5, nil, api.ErrState)
	checkTurned(t, "on one day, all are later", row(5, 9, 2, 5, 4, 4), 9, 4, row(5, 3, 2, 5, 6, 4), api.OK)
	checkTurned(t, "to nothing", row(5, 9, 0, 6, 4, 0), 0, 4, row(5, 0, 0, 6, 0, 0), api.OK)
	checkTurned(t, "nothing to something", row(5, 0, 0, 6, 0, 0), 7, 4, row(5, 3, 0, 6, 4, 0), api.OK)
	checkTurned(t, "nothing stays nothing", row(5, 0, 0, 6, 0, 0), 0, 5, row(5, 0, 0, 6, 0, 0), api.OK)
	checkTurned(t, "what stays isn't paid", row(5, 9, 0, 6, 4, 1), 10, 5, row(5, 9, 0, 6, 1, 1), api.OK)
	checkTurned(t, "what stays isn't paid, less", row(5, 9, 0, 6, 4, 1), 9, 5, nil, api.ErrBound)
	checkTurned(t, "more stays than all", row(5, 9, 0, 6, 4, 0), 8, 5, nil, api.ErrBound)
	checkTurned(t, "as much as stays", row(5, 9, 0, 6, 4, 0), 9, 5, row(5, 9, 0, 6, 0, 0), api.OK)
	checkTurned(t, "MaxSum stays", row(5, maxSum, 0, 6, 0, 0), maxSum, 5, row(5, maxSum, 0, 6, 0, 0), api.OK)
	checkTurned(t, "MaxSum stays, to nothing", row(5, maxSum, 0, 6, 0, 0), 0, 5, nil, api.ErrBound)
	checkTurned(t, "MaxSum is paid of a later one", row(5, maxSum, maxSum), maxSum, 4, row(5, maxSum, maxSum), api.OK)
	checkTurned(t, "MaxSum is paid, less", row(5, maxSum, maxSum), maxSum-1, 4, nil, api.ErrBound)
	checkTurned(t, "on the last day", row(maxDay, 9, 2), 11, maxDay-1, row(maxDay, 11, 2), api.OK)
	checkTurned(t, "behind the last day", row(maxDay, 9, 2), 11, maxDay, nil, api.ErrState)
	full := slices.Repeat(row(3, 2, 1), 100)
	checkTurned(t, "100 bills", full, 300, 2, slices.Repeat(row(3, 3, 1), 100), api.OK)
	checkTurned(t, "100 bills, a cent more", full, 101, 2, append(slices.Repeat(row(3, 1, 1), 99), row(3, 2, 1)...), api.OK)
	for name, l := range wrong() {
		for _, day := range []int{math.MinInt, 0, 5, math.MaxInt} {
			for _, amt := range []int{-1, 0, 5, 10, maxSum, maxSum + 1} {
				checkTurned(t, name, l, amt, day, nil, api.ErrArg)
			}
		}
	}
}

func TestP16_4OfAny(t *testing.T) {
	r := rand.New(rand.NewSource(164))
	codes := map[api.Errno]int{}
	for range 3000 {
		l := anyBills(r)
		most := amount(l) + 20
		if r.Intn(2) == 0 {
			l, most = greatBills(r), maxSum
		}
		for _, day := range daysAt(l) {
			for _, amt := range []int{0, paid(l), amount(l), r.Intn(most + 1)} {
				want, code := turned(l, amt, day)
				checkTurned(t, "any", l, amt, day, want, code)
				codes[code]++
			}
		}
	}
	for _, code := range []api.Errno{api.OK, api.ErrBound, api.ErrState} {
		if codes[code] < 1000 {
			t.Errorf("code %d came %d times only", code, codes[code])
		}
	}
}

// All that is turned is right, is the amount, and has the Dues and Paids that it had.
func TestP16_4Sums(t *testing.T) {
	r := rand.New(rand.NewSource(1642))
	for range 3000 {
		l := greatBills(r)
		for _, day := range daysAt(l) {
			amt := paid(l) + r.Intn(maxSum-paid(l)+1)
			m, code := bill.Turned(l, amt, day)
			if code != api.OK {
				continue
			}
			if !bill.Right(m) || amount(m) != amt || len(m) != len(l) {
				t.Errorf("Turned(%v, %d, %d): %v", l, amt, day, m)
				continue
			}
			for i := range m {
				if m[i].Due != l[i].Due || m[i].Paid != l[i].Paid || l[i].Due <= day && m[i] != l[i] {
					t.Errorf("Turned(%v, %d, %d): %v", l, amt, day, m)
				}
			}
		}
	}
}

func anyPlan(t *testing.T, r *rand.Rand) []api.Bill {
	t.Helper()
	amt := r.Intn(200)
	if r.Intn(2) == 0 {
		amt = r.Intn(maxSum + 1)
	}
	from := 1 + r.Intn(maxDay-400)
	l := plan(t, amt, of(from, from+1+r.Intn(400)), []int{1, 2, 4, 12}[r.Intn(4)])
	if !bill.Right(l) || amount(l) != amt || paid(l) != 0 {
		t.Fatalf("a plan of %d: %v", amt, l)
	}
	return l
}

func TestP16_5NoBillIsPaidTwice(t *testing.T) {
	r := rand.New(rand.NewSource(165))
	for range 3000 {
		l := anyPlan(t, r)
		all := amount(l)
		first, more := r.Intn(all+1), r.Intn(1000)
		m, left := bill.Pay(l, first)
		if left != 0 || paid(m) != first || bill.Open(m, maxDay) != all-first {
			t.Errorf("%d of %v: %v, %d left", first, l, m, left)
		}
		full, left := bill.Pay(m, all-first+more)
		if left != more || paid(full) != all || bill.Open(full, maxDay) != 0 {
			t.Errorf("%d more of %v: %v, %d left", all-first+more, m, full, left)
		}
		if again, left := bill.Pay(full, more); left != more || !slices.Equal(again, full) {
			t.Errorf("%d more of %v: %v, %d left", more, full, again, left)
		}
	}
}

func TestP16_5TwoPartsAsOne(t *testing.T) {
	r := rand.New(rand.NewSource(1652))
	for range 3000 {
		l := anyPlan(t, r)
		if r.Intn(2) == 0 {
			l = greatBills(r)
		}
		a, b := r.Intn(amount(l)+9), r.Intn(amount(l)+9)
		one, left := bill.Pay(l, a+b)
		m, over := bill.Pay(l, a)
		two, rest := bill.Pay(m, b)
		if !slices.Equal(one, two) || left != over+rest {
			t.Errorf("%v, paid %d and %d: %v and %d left; in one %v and %d left", l, a, b, two, over+rest, one, left)
		}
	}
}

// A plan that is turned to what it is stays, if all of it is later, or nothing; or if its parts are equal.
func TestP16_5TurnedToWhatItIs(t *testing.T) {
	r := rand.New(rand.NewSource(1653))
	for range 3000 {
		l := anyPlan(t, r)
		for _, day := range []int{math.MinInt, 0, l[0].Due - 1, l[len(l)-1].Due, maxDay, math.MaxInt} {
			checkTurned(t, "a plan", l, amount(l), day, l, api.OK)
		}
		if len(l) > 1 {
			checkTurned(t, "a plan, ahead of its last", l, amount(l), l[len(l)-1].Due-1, l, api.OK)
		}
		even := plan(t, amount(l)/12*12, of(l[0].Due, l[0].Due+1), len(l))
		for _, day := range daysAt(even) {
			checkTurned(t, "a plan of equal parts", even, amount(even), day, even, api.OK)
		}
	}
	// Of other plans P16.4's words hold: what is left by the first one is dealt out equally anew.
	l := plan(t, 2, of(1, 366), 4)
	checkTurned(t, "2 in 4, as planned", l, 2, 0, row(1, 0, 0, 91, 1, 0, 182, 0, 0, 274, 1, 0), api.OK)
	checkTurned(t, "2 in 4, behind the first", l, 2, 1, row(1, 0, 0, 91, 0, 0, 182, 1, 0, 274, 1, 0), api.OK)
}
