package claim_test

import (
	"math"
	"math/big"
	"math/rand"
	"slices"
	"testing"

	"bordereau/api"
	"bordereau/claim"
)

// The limits and the kinds as the document tells them, so that no test leans on the code's own.
const (
	maxDay   = 292194
	maxId    = 1000000000
	maxMoney = 1000000000000000
	maxRows  = 2000

	gross   = 1
	pay     = 2
	back    = 3
	closing = 4
	reopen  = 5
)

// far are numbers that lie beyond every bound, some of which a shorter integer would cut to a fine one.
var far = []int{math.MinInt, math.MinInt + 1, -1 << 32, -1<<32 + 1, math.MaxInt32 + 1<<32, 1<<62 + 1, math.MaxInt - 1, math.MaxInt}

// loss is a claim that may be, booked on day 7.
func loss() api.Claim {
	return api.Claim{Id: 4, Policy: 2, Peril: 7, Loss: 5, Booked: 7, Event: 3}
}

func act(booked, kind, amt int) api.Act {
	return api.Act{Booked: booked, Kind: kind, Amt: amt}
}

// held is the file of loss with these acts, right or not.
func held(l ...api.Act) api.File {
	return api.File{Claim: loss(), Acts: l}
}

// filed is the file into which these acts were put, each of which must go.
func filed(t *testing.T, l ...api.Act) api.File {
	t.Helper()
	f := claim.Open(loss())
	for i, a := range l {
		g, code := claim.Put(f, a)
		if code != api.OK {
			t.Fatalf("Put of act %d, %v: code %d", i, a, code)
		}
		f = g
	}
	return f
}

func clone(f api.File) api.File {
	f.Acts = slices.Clone(f.Acts)
	return f
}

func same(f, g api.File) bool {
	return f.Claim == g.Claim && slices.Equal(f.Acts, g.Acts)
}

// many are so many acts of day 7, each of which leaves the file open.
func many(n int) []api.Act {
	l := make([]api.Act, n)
	for i := range l {
		l[i] = act(7, gross, i)
	}
	return l
}

// tail is the last few acts, lest a fault print thousands.
func tail(f api.File) []api.Act {
	return f.Acts[max(0, len(f.Acts)-12):]
}

func checkPut(t *testing.T, name string, f api.File, a api.Act) {
	t.Helper()
	before := clone(f)
	want := api.File{Claim: before.Claim, Acts: append(slices.Clone(before.Acts), a)}
	if got, code := claim.Put(f, a); code != api.OK || !same(got, want) {
		t.Errorf("%s: Put of %v behind %v: %v .. %v, code %d", name, a, tail(f), got.Claim, tail(got), code)
	}
	if !same(f, before) {
		t.Errorf("%s: Put of %v wrote into its file", name, a)
	}
}

func checkCode(t *testing.T, name string, f api.File, a api.Act, want api.Errno) {
	t.Helper()
	before := clone(f)
	if got, code := claim.Put(f, a); code != want || got.Claim != (api.Claim{}) || len(got.Acts) != 0 {
		t.Errorf("%s: Put of %v behind %v: %v .. %v, code %d; want none, code %d", name, a, tail(f), got.Claim, tail(got), code, want)
	}
	if !same(f, before) {
		t.Errorf("%s: Put of %v wrote into its file", name, a)
	}
}

func checkStand(t *testing.T, name string, f api.File, want api.Pos) {
	t.Helper()
	before := clone(f)
	if got := claim.Stand(f); got != want {
		t.Errorf("%s: Stand of %v: %+v, want %+v", name, tail(f), got, want)
	}
	if !same(f, before) {
		t.Errorf("%s: Stand wrote into its file", name)
	}
}

func checkAt(t *testing.T, name string, f api.File, booked int, want ...api.Act) {
	t.Helper()
	before := clone(f)
	if got := claim.At(f, booked); got.Claim != f.Claim || !slices.Equal(got.Acts, want) {
		t.Errorf("%s: At of %v on %d: %v, %v; want %v", name, tail(f), booked, got.Claim, tail(got), want)
	}
	if !same(f, before) {
		t.Errorf("%s: At wrote into its file", name)
	}
}

// bound is a number of a claim or an act, and from where up to where it may be.
type bound[T any] struct {
	name      string
	at        func(*T) *int
	low, high int
}

// checkBounds asks about one that may be, with each number at its bounds and beyond.
func checkBounds[T any](t *testing.T, fine T, l []bound[T], ask func(T) bool) {
	t.Helper()
	for _, b := range l {
		for _, n := range append([]int{b.low - 1, b.low, b.low + 1, b.high - 1, b.high, b.high + 1, b.high + 1<<32, b.low + 1<<32}, far...) {
			x := fine
			*b.at(&x) = n
			if got, want := ask(x), n >= b.low && n <= b.high; got != want {
				t.Errorf("%s %d of %+v: %t, want %t", b.name, n, x, got, want)
			}
		}
	}
}

func claimBounds() []bound[api.Claim] {
	return []bound[api.Claim]{
		{"Id", func(c *api.Claim) *int { return &c.Id }, 1, maxId},
		{"Policy", func(c *api.Claim) *int { return &c.Policy }, 1, maxId},
		{"Peril", func(c *api.Claim) *int { return &c.Peril }, 0, 7},
		{"Loss", func(c *api.Claim) *int { return &c.Loss }, 1, maxDay},
		{"Booked", func(c *api.Claim) *int { return &c.Booked }, 1, maxDay},
		{"Event", func(c *api.Claim) *int { return &c.Event }, 0, maxId},
	}
}

func TestP18_1FormedAsksEachNumber(t *testing.T) {
	checkBounds(t, loss(), claimBounds(), claim.Formed)
	low := api.Claim{Id: 1, Policy: 1, Loss: 1, Booked: 1}
	high := api.Claim{Id: maxId, Policy: maxId, Peril: 7, Loss: maxDay, Booked: maxDay, Event: maxId}
	checkBounds(t, low, claimBounds(), claim.Formed)
	checkBounds(t, high, claimBounds(), claim.Formed)
	if !claim.Formed(low) || !claim.Formed(high) || claim.Formed(api.Claim{}) {
		t.Error("Formed of the least, the greatest and the zero claim")
	}
}

// Which of the two days is ahead isn't asked: a layer above does.
func TestP18_1FormedTakesDaysEitherWay(t *testing.T) {
	for _, c := range []api.Claim{{Id: 1, Policy: 1, Loss: 9, Booked: 8}, {Id: 1, Policy: 1, Loss: 8, Booked: 9}, {Id: 1, Policy: 1, Loss: 8, Booked: 8}, {Id: 1, Policy: 1, Loss: maxDay, Booked: 1}} {
		if !claim.Formed(c) {
			t.Errorf("Formed of %+v: false", c)
		}
	}
}

func TestP18_1FormedOfAllTogether(t *testing.T) {
	r := rand.New(rand.NewSource(181))
	l := claimBounds()
	for range 4000 {
		var c api.Claim
		want := true
		for _, b := range l {
			n := []int{b.low - 1, b.low, b.low + 1, b.high, b.high, b.low, b.high - 1, b.low, b.high + 1}[r.Intn(9)]
			*b.at(&c) = n
			want = want && n >= b.low && n <= b.high
		}
		if got := claim.Formed(c); got != want {
			t.Fatalf("Formed of %+v: %t, want %t", c, got, want)
		}
	}
}

func TestP18_1RightAsksEachNumber(t *testing.T) {
	booked := bound[api.Act]{"Booked", func(a *api.Act) *int { return &a.Booked }, 1, maxDay}
	amt := func(high int) bound[api.Act] {
		return bound[api.Act]{"Amt", func(a *api.Act) *int { return &a.Amt }, 0, high}
	}
	for _, kind := range []int{gross, pay, back} {
		checkBounds(t, act(9, kind, 5), []bound[api.Act]{booked, amt(maxMoney)}, claim.Right)
	}
	for _, kind := range []int{closing, reopen} {
		checkBounds(t, act(9, kind, 0), []bound[api.Act]{booked, amt(0)}, claim.Right)
	}
	kind := bound[api.Act]{"Kind", func(a *api.Act) *int { return &a.Kind }, 1, 5}
	checkBounds(t, act(9, gross, 0), []bound[api.Act]{kind}, claim.Right)
	kind.high = 3
	checkBounds(t, act(9, gross, 1), []bound[api.Act]{kind}, claim.Right)
	if claim.Right(api.Act{}) {
		t.Error("Right of the zero act: true")
	}
}

func TestP18_1RightOfAllTogether(t *testing.T) {
	for _, booked := range []int{0, 1, 2, maxDay - 1, maxDay, maxDay + 1} {
		for kind := -2; kind <= 8; kind++ {
			for _, amt := range []int{-1, 0, 1, maxMoney - 1, maxMoney, maxMoney + 1} {
				want := booked >= 1 && booked <= maxDay && kind >= 1 && kind <= 5 && amt >= 0 && amt <= maxMoney
				if kind == closing || kind == reopen {
					want = want && amt == 0
				}
				if got := claim.Right(act(booked, kind, amt)); got != want {
					t.Errorf("Right of %v: %t, want %t", act(booked, kind, amt), got, want)
				}
			}
		}
	}
}

func TestP18_2OpenIsTheClaimWithoutActs(t *testing.T) {
	// Such as may not be are filed as well: Open has no code.
	for _, c := range []api.Claim{loss(), {}, {Id: -1, Policy: math.MaxInt, Peril: 9, Loss: math.MinInt, Booked: 0, Event: -7}} {
		f := claim.Open(c)
		if f.Claim != c || len(f.Acts) != 0 {
			t.Errorf("Open of %+v: %+v", c, f)
		}
		checkStand(t, "a file that is new", f, api.Pos{Open: true})
	}
}

func TestP18_3PutSetsBehind(t *testing.T) {
	f := claim.Open(loss())
	for _, a := range []api.Act{act(7, gross, 500), act(7, pay, 200), act(8, back, 30), act(8, closing, 0), act(8, reopen, 0), act(20, pay, 0), act(20, gross, 0), act(20, closing, 0), act(maxDay, reopen, 0), act(maxDay, back, 1)} {
		checkPut(t, "one behind the other", f, a)
		f, _ = claim.Put(f, a)
	}
	if len(f.Acts) != 10 || f.Claim != loss() {
		t.Errorf("all of them: %v", f)
	}
	// Of the claim only its booking is asked.
	checkPut(t, "a claim that may not be", api.File{}, act(1, pay, 5))
	checkPut(t, "a claim that may not be", api.File{Claim: api.Claim{Id: -1, Peril: 99, Booked: -5}}, act(1, closing, 0))
}

func TestP18_3PutRefusesWhatIsNotRight(t *testing.T) {
	f := filed(t, act(8, gross, 500))
	for _, a := range []api.Act{{}, act(0, gross, 1), act(-1, gross, 1), act(maxDay+1, gross, 1), act(9, 0, 1), act(9, 6, 1), act(9, -1, 1), act(9, gross, -1), act(9, pay, -1), act(9, back, -1), act(9, gross, maxMoney+1), act(9, pay, maxMoney+1), act(9, back, maxMoney+1), act(9, closing, 1), act(9, closing, -1), act(9, reopen, 1), act(9, pay+1<<32, 1), act(9, pay, math.MaxInt), act(9, pay, math.MinInt), act(math.MinInt, pay, 1)} {
		checkCode(t, "an act that isn't right", f, a, api.ErrArg)
	}
}

func TestP18_3PutRefusesTooMany(t *testing.T) {
	checkPut(t, "the last one", held(many(maxRows-1)...), act(7, pay, 5))
	checkCode(t, "one too many", held(many(maxRows)...), act(7, pay, 5), api.ErrBound)
	checkCode(t, "many too many", held(many(maxRows+1)...), act(7, pay, 5), api.ErrBound)
	checkCode(t, "many too many", held(many(3*maxRows)...), act(7, closing, 0), api.ErrBound)
	f := filed(t, many(maxRows)...)
	if len(f.Acts) != maxRows {
		t.Errorf("%d acts went in", len(f.Acts))
	}
	checkCode(t, "each kind", f, act(7, reopen, 0), api.ErrBound)
}

func TestP18_3PutRefusesWhatIsAhead(t *testing.T) {
	// Without acts it is the claim's booking, not its loss.
	checkCode(t, "ahead of the claim", claim.Open(loss()), act(6, gross, 1), api.ErrOrder)
	checkPut(t, "with the claim", claim.Open(loss()), act(7, gross, 1))
	checkCode(t, "on the day of the loss", claim.Open(loss()), act(5, gross, 1), api.ErrOrder)
	// With some it is the last one's, not the claim's.
	f := filed(t, act(8, gross, 1), act(20, pay, 1))
	checkCode(t, "ahead of the last act", f, act(19, pay, 1), api.ErrOrder)
	checkCode(t, "on the first act's day", f, act(8, pay, 1), api.ErrOrder)
	checkPut(t, "with the last act", f, act(20, pay, 1))
	checkPut(t, "behind the last act", f, act(21, pay, 1))
	// Not the latest one's either, where no Put made the file.
	checkPut(t, "behind the last one alone", held(act(30, pay, 1), act(3, pay, 1)), act(3, pay, 1))
	checkCode(t, "behind the first one alone", held(act(3, pay, 1), act(30, pay, 1)), act(29, pay, 1), api.ErrOrder)
	// A bad kind has a booking too.
	checkCode(t, "ahead of one of no kind", held(act(9, 77, 1)), act(8, pay, 1), api.ErrOrder)
}

func TestP18_3PutRefusesByTheState(t *testing.T) {
	kinds := []int{gross, pay, back, closing, reopen}
	files := []struct {
		name string
		f    api.File
		open bool
	}{
		{"new", claim.Open(loss()), true},
		{"with acts", filed(t, act(7, gross, 5), act(7, pay, 5), act(7, back, 5)), true},
		{"closed", filed(t, act(7, closing, 0)), false},
		{"closed behind acts", filed(t, act(7, gross, 5), act(8, pay, 5), act(8, closing, 0)), false},
		{"reopened", filed(t, act(7, closing, 0), act(8, reopen, 0)), true},
		{"closed again", filed(t, act(7, closing, 0), act(8, reopen, 0), act(9, closing, 0)), false},
		{"closed, with an act behind, by no Put", held(act(7, closing, 0), act(7, pay, 5)), false},
		{"reopened while open, by no Put", held(act(7, reopen, 0)), true},
		{"closed twice and reopened, by no Put", held(act(7, closing, 0), act(7, closing, 0), act(7, reopen, 0)), true},
		{"closed with an amount, by no Put", held(act(7, closing, 9)), false},
		{"closed ahead of one of no kind, by no Put", held(act(7, closing, 0), act(7, 6, 0), act(7, 0, 0), act(7, math.MinInt, 0)), false},
	}
	for _, x := range files {
		for _, kind := range kinds {
			if x.open == (kind == reopen) {
				checkCode(t, x.name, x.f, act(50, kind, 0), api.ErrState)
			} else {
				checkPut(t, x.name, x.f, act(50, kind, 0))
			}
		}
	}
}

func TestP18_3PutRefusesTooMuch(t *testing.T) {
	for _, kind := range []int{pay, back} {
		other := pay + back - kind
		f := filed(t, act(7, kind, 200), act(7, kind, 300))
		checkPut(t, "all that may be", f, act(7, kind, maxMoney-500))
		checkCode(t, "a cent more", f, act(7, kind, maxMoney-499), api.ErrOver)
		checkCode(t, "far more", f, act(7, kind, maxMoney), api.ErrOver)
		checkPut(t, "the other one", f, act(7, other, maxMoney))
		full := filed(t, act(7, kind, maxMoney))
		checkPut(t, "nothing more", full, act(7, kind, 0))
		checkCode(t, "one behind all", full, act(7, kind, 1), api.ErrOver)
		checkPut(t, "the other one", full, act(7, other, maxMoney))
		// A closing doesn't begin anew.
		again := filed(t, act(7, kind, maxMoney), act(7, closing, 0), act(7, reopen, 0))
		checkCode(t, "behind a closing", again, act(7, kind, 1), api.ErrOver)
	}
	// What is thought isn't added up.
	f := filed(t, act(7, gross, maxMoney), act(7, gross, maxMoney))
	checkPut(t, "thought again", f, act(7, gross, maxMoney))
	checkPut(t, "shown beside it", f, act(7, pay, maxMoney))
}

// Of files that no Put made, the amounts are added as whole numbers of any size.
func TestP18_3PutAddsAnyAmounts(t *testing.T) {
	for _, kind := range []int{pay, back} {
		huge := held(act(7, kind, math.MaxInt), act(7, kind, math.MaxInt))
		checkCode(t, "around at 2^64", huge, act(7, kind, 1), api.ErrOver)
		checkCode(t, "around at 2^63", held(act(7, kind, math.MaxInt)), act(7, kind, 1), api.ErrOver)
		checkCode(t, "nothing more", huge, act(7, kind, 0), api.ErrOver)
		checkPut(t, "far below", held(act(7, kind, math.MinInt), act(7, kind, math.MinInt)), act(7, kind, maxMoney))
		checkPut(t, "below", held(act(7, kind, -5)), act(7, kind, maxMoney))
		checkPut(t, "taken off", held(act(7, kind, maxMoney), act(7, kind, -5)), act(7, kind, 5))
		checkCode(t, "taken off", held(act(7, kind, maxMoney), act(7, kind, -5)), act(7, kind, 6), api.ErrOver)
		checkPut(t, "there and back", held(act(7, kind, math.MaxInt), act(7, kind, math.MaxInt), act(7, kind, math.MinInt), act(7, kind, math.MinInt)), act(7, kind, 5))
		checkCode(t, "above 2^64", held(act(7, kind, math.MaxInt), act(7, kind, math.MaxInt), act(7, kind, 2)), act(7, kind, 0), api.ErrOver)
		// Only the act's own kind is asked.
		checkPut(t, "the other one is too much", huge, act(7, pay+back-kind, maxMoney))
		checkPut(t, "thought", huge, act(7, gross, 5))
		checkPut(t, "closed", huge, act(7, closing, 0))
	}
}

// Each act has all faults but those named ahead of its code.
func TestP18_3PutTellsTheFirst(t *testing.T) {
	full := many(maxRows)
	full[0], full[1] = act(9, pay, maxMoney), act(9, back, maxMoney)
	full[maxRows-1] = act(9, closing, 0)
	less := slices.Clone(full[:maxRows-1])
	less[maxRows-2] = act(9, closing, 0)
	checkCode(t, "all of them", held(full...), act(8, pay, maxMoney+1), api.ErrArg)
	checkCode(t, "all of them", held(full...), act(8, reopen, 1), api.ErrArg)
	checkCode(t, "right", held(full...), act(8, pay, 1), api.ErrBound)
	checkCode(t, "not too many", held(less...), act(8, pay, 1), api.ErrOrder)
	checkCode(t, "in order", held(less...), act(9, pay, 1), api.ErrState)
	checkCode(t, "in order", held(less...), act(9, back, 1), api.ErrState)
	open := append(less[:maxRows-3:maxRows-3], act(9, reopen, 0))
	checkCode(t, "open", held(open...), act(9, pay, 1), api.ErrOver)
	checkCode(t, "open", held(open...), act(9, back, 1), api.ErrOver)
	checkCode(t, "open", held(open...), act(9, reopen, 0), api.ErrState)
	checkCode(t, "open", held(open...), act(8, reopen, 0), api.ErrOrder)
	checkPut(t, "none of them", held(open...), act(9, pay, 0))
}

func TestP18_3PutSharesNoMemory(t *testing.T) {
	room := append(make([]api.Act, 0, 9), act(7, gross, 5), act(8, pay, 3))
	f := held(room...)
	one, _ := claim.Put(f, act(9, pay, 1))
	two, _ := claim.Put(f, act(9, closing, 0))
	if !same(one, held(act(7, gross, 5), act(8, pay, 3), act(9, pay, 1))) || !same(two, held(act(7, gross, 5), act(8, pay, 3), act(9, closing, 0))) {
		t.Errorf("two files of one: %v, %v", one, two)
	}
	if room[:3][2] != (api.Act{}) {
		t.Error("Put wrote behind its file's acts")
	}
	three, _ := claim.Put(one, act(10, pay, 2))
	four, _ := claim.Put(one, act(11, pay, 4))
	if three.Acts[3] != act(10, pay, 2) || four.Acts[3] != act(11, pay, 4) {
		t.Errorf("two files of one: %v, %v", three, four)
	}
	one.Acts[0].Amt = 99
	if f.Acts[0].Amt != 5 || two.Acts[0].Amt != 5 || three.Acts[0].Amt != 5 {
		t.Error("files share their acts")
	}
}

func TestP18_4StandOfTheExample(t *testing.T) {
	f := filed(t, act(7, gross, 500), act(7, pay, 200), act(7, closing, 0))
	checkStand(t, "the example", f, api.Pos{Gross: 500, Shown: 200})
	checkCode(t, "the example", f, act(7, pay, 1), api.ErrState)
}

func TestP18_4StandActByAct(t *testing.T) {
	f := claim.Open(loss())
	for _, x := range []struct {
		a    api.Act
		want api.Pos
	}{
		{act(7, back, 40), api.Pos{Back: 40, Open: true}},
		{act(7, pay, 300), api.Pos{Gross: 300, Shown: 300, Back: 40, Open: true}},
		{act(8, gross, 500), api.Pos{Gross: 500, Shown: 300, Back: 40, Open: true}},
		{act(8, gross, 450), api.Pos{Gross: 450, Shown: 300, Back: 40, Open: true}},
		{act(8, pay, 150), api.Pos{Gross: 450, Shown: 450, Back: 40, Open: true}},
		{act(8, pay, 1), api.Pos{Gross: 451, Shown: 451, Back: 40, Open: true}},
		{act(9, closing, 0), api.Pos{Gross: 451, Shown: 451, Back: 40}},
		{act(9, reopen, 0), api.Pos{Gross: 451, Shown: 451, Back: 40, Open: true}},
		{act(9, gross, 0), api.Pos{Gross: 451, Shown: 451, Back: 40, Open: true}},
		{act(9, gross, 452), api.Pos{Gross: 452, Shown: 451, Back: 40, Open: true}},
		{act(9, back, maxMoney-40), api.Pos{Gross: 452, Shown: 451, Back: maxMoney, Open: true}},
		{act(9, gross, maxMoney), api.Pos{Gross: maxMoney, Shown: 451, Back: maxMoney, Open: true}},
		{act(9, pay, maxMoney-451), api.Pos{Gross: maxMoney, Shown: maxMoney, Back: maxMoney, Open: true}},
		{act(9, gross, 0), api.Pos{Gross: maxMoney, Shown: maxMoney, Back: maxMoney, Open: true}},
		{act(9, closing, 0), api.Pos{Gross: maxMoney, Shown: maxMoney, Back: maxMoney}},
	} {
		g, code := claim.Put(f, x.a)
		if code != api.OK {
			t.Fatalf("Put of %v: code %d", x.a, code)
		}
		f = g
		checkStand(t, "act by act", f, x.want)
	}
}

// Acts of files that no Put made do what their kinds say, whatever else they say.
func TestP18_4StandOfAnyFile(t *testing.T) {
	top := math.MaxInt
	for _, x := range []struct {
		name string
		f    api.File
		want api.Pos
	}{
		{"acts of no kind", held(act(7, 0, 5), act(7, 6, 5), act(7, -1, 5), act(7, math.MinInt, 5), act(7, math.MaxInt, 5), act(7, pay+1<<32, 5)), api.Pos{Open: true}},
		{"bookings of no order", held(act(9, gross, 8), act(0, pay, 3), act(-5, gross, 6), act(3, back, 1)), api.Pos{Gross: 6, Shown: 3, Back: 1, Open: true}},
		{"paid while closed", held(act(7, closing, 0), act(7, pay, 5), act(7, gross, 9), act(7, back, 2)), api.Pos{Gross: 9, Shown: 5, Back: 2}},
		{"closed twice", held(act(7, closing, 0), act(7, closing, 0), act(7, reopen, 0)), api.Pos{Open: true}},
		{"reopened twice", held(act(7, reopen, 0), act(7, reopen, 0), act(7, closing, 0)), api.Pos{}},
		{"amounts of kinds that have none", held(act(7, closing, 5), act(7, reopen, -5)), api.Pos{Open: true}},
		{"paid below 0", held(act(7, pay, -5)), api.Pos{Shown: -5, Open: true}},
		{"thought below 0", held(act(7, gross, -5)), api.Pos{Open: true}},
		{"both below 0", held(act(7, gross, -5), act(7, pay, -8)), api.Pos{Gross: -5, Shown: -8, Open: true}},
		{"both below 0", held(act(7, gross, -9), act(7, pay, -8)), api.Pos{Gross: -8, Shown: -8, Open: true}},
		{"around at 2^63", held(act(7, pay, top), act(7, pay, 1)), api.Pos{Shown: math.MinInt, Open: true}},
		{"around at 2^64", held(act(7, pay, top), act(7, pay, top), act(7, pay, 2)), api.Pos{Open: true}},
		{"around and on", held(act(7, pay, top), act(7, pay, top), act(7, pay, 5)), api.Pos{Gross: 3, Shown: 3, Open: true}},
		{"back, around", held(act(7, back, top), act(7, back, top)), api.Pos{Back: -2, Open: true}},
		{"back, around below", held(act(7, back, math.MinInt), act(7, back, -1)), api.Pos{Back: top, Open: true}},
		{"thought of any size", held(act(7, gross, top), act(7, gross, top)), api.Pos{Gross: top, Open: true}},
	} {
		checkStand(t, x.name, x.f, x.want)
	}
	checkStand(t, "more than MaxRows", held(slices.Repeat([]api.Act{act(7, pay, 3)}, 3*maxRows)...), api.Pos{Gross: 9 * maxRows, Shown: 9 * maxRows, Open: true})
	checkStand(t, "the zero file", api.File{}, api.Pos{Open: true})
}

func TestP18_5AtKeepsWhatWasKnown(t *testing.T) {
	l := []api.Act{act(7, gross, 500), act(8, pay, 200), act(8, gross, 100), act(9, back, 50), act(9, closing, 0), act(20, reopen, 0), act(20, pay, 7)}
	f := filed(t, l...)
	for booked, n := range map[int]int{math.MinInt: 0, -1: 0, 0: 0, 6: 0, 7: 1, 8: 3, 9: 5, 10: 5, 19: 5, 20: 7, 21: 7, maxDay: 7, math.MaxInt: 7} {
		checkAt(t, "a file that was put together", f, booked, l[:n]...)
	}
	checkAt(t, "no acts", claim.Open(loss()), 3)
	checkAt(t, "the zero file", api.File{}, 0)
}

// Acts of no order of booking, and such as aren't right, stay in their order.
func TestP18_5AtOfAnyFile(t *testing.T) {
	f := held(act(9, gross, 1), act(3, 88, -1), act(20, closing, 4), act(3, pay, 2), act(-6, gross, 1), act(9, pay, 5))
	checkAt(t, "no order", f, -7)
	checkAt(t, "no order", f, -6, f.Acts[4])
	checkAt(t, "no order", f, 2, f.Acts[4])
	checkAt(t, "no order", f, 3, f.Acts[1], f.Acts[3], f.Acts[4])
	checkAt(t, "no order", f, 9, f.Acts[0], f.Acts[1], f.Acts[3], f.Acts[4], f.Acts[5])
	checkAt(t, "no order", f, 20, f.Acts...)
	long := held(many(3 * maxRows)...)
	checkAt(t, "more than MaxRows", long, 7, long.Acts...)
}

func TestP18_5AtSharesNoMemory(t *testing.T) {
	f := filed(t, act(7, gross, 500), act(8, pay, 200), act(9, pay, 100))
	then, now := claim.At(f, 8), claim.At(f, 99)
	then.Acts = append(then.Acts, act(8, closing, 0))
	then.Acts[0].Amt, now.Acts[1].Amt = 1, 2
	if !same(f, held(act(7, gross, 500), act(8, pay, 200), act(9, pay, 100))) {
		t.Errorf("the file was written into: %v", f)
	}
}

// What is put later changes nothing of what was known ahead.
func TestP18_6LaterActsChangeNothing(t *testing.T) {
	r := rand.New(rand.NewSource(186))
	for range 60 {
		f := claim.Open(loss())
		day := 7
		var known []api.File
		var days []int
		for range 40 {
			g, code := claim.Put(f, act(day, 1+r.Intn(5), 0))
			if code != api.OK {
				continue
			}
			known, days, f = append(known, g), append(days, day), g
			day += 1 + r.Intn(3)
		}
		for i, g := range known {
			checkAt(t, "as it was known", f, days[i], g.Acts...)
			if claim.Stand(claim.At(f, days[i])) != claim.Stand(g) {
				t.Fatalf("what stood on day %d stands otherwise", days[i])
			}
		}
	}
}

// An act changes what its kind says, and nothing else.
func TestP18_6AnActChangesItsOwn(t *testing.T) {
	l := []api.Act{act(7, gross, 500), act(7, pay, 200), act(7, back, 60)}
	was := claim.Stand(filed(t, l...))
	if was != (api.Pos{Gross: 500, Shown: 200, Back: 60, Open: true}) {
		t.Fatalf("ahead of it: %+v", was)
	}
	for _, x := range []struct {
		a    api.Act
		want api.Pos
	}{
		{act(7, gross, 900), api.Pos{Gross: 900, Shown: 200, Back: 60, Open: true}},
		{act(7, pay, 9), api.Pos{Gross: 500, Shown: 209, Back: 60, Open: true}},
		{act(7, back, 9), api.Pos{Gross: 500, Shown: 200, Back: 69, Open: true}},
		{act(7, closing, 0), api.Pos{Gross: 500, Shown: 200, Back: 60}},
	} {
		checkStand(t, "one more", filed(t, append(slices.Clone(l), x.a)...), x.want)
	}
	l = append(l, act(7, closing, 0), act(7, reopen, 0))
	checkStand(t, "closed and reopened", filed(t, l...), was)
}

// sum is what the acts of a kind add up to, as a whole number of any size.
func sum(l []api.Act, kind int) *big.Int {
	all := new(big.Int)
	for _, a := range l {
		if a.Kind == kind {
			all.Add(all, big.NewInt(int64(a.Amt)))
		}
	}
	return all
}

// around is what is left of a number going round at 2^64.
func around(n *big.Int) int {
	low := new(big.Int).And(n, new(big.Int).SetUint64(math.MaxUint64))
	return int(low.Uint64())
}

// opened tells whether the last closing or reopening left it open.
func opened(l []api.Act) bool {
	for i := len(l) - 1; i >= 0; i-- {
		if l[i].Kind == closing || l[i].Kind == reopen {
			return l[i].Kind == reopen
		}
	}
	return true
}

// stood is how a file stands, by the chapter's words.
func stood(l []api.Act) api.Pos {
	p := api.Pos{Shown: around(sum(l, pay)), Back: around(sum(l, back)), Open: opened(l)}
	for i := len(l) - 1; i >= 0; i-- {
		if l[i].Kind == gross {
			p.Gross = l[i].Amt
			break
		}
	}
	if p.Shown > p.Gross {
		p.Gross = p.Shown
	}
	return p
}

// told is the code of Put, by the chapter's words.
func told(f api.File, a api.Act) api.Errno {
	last := f.Claim.Booked
	if len(f.Acts) > 0 {
		last = f.Acts[len(f.Acts)-1].Booked
	}
	all := append(slices.Clone(f.Acts), a)
	switch {
	case a.Booked < 1 || a.Booked > maxDay || a.Kind < 1 || a.Kind > 5 || a.Amt < 0 || a.Amt > maxMoney || a.Kind >= closing && a.Amt != 0:
		return api.ErrArg
	case len(f.Acts) >= maxRows:
		return api.ErrBound
	case a.Booked < last:
		return api.ErrOrder
	case opened(f.Acts) && a.Kind == reopen || !opened(f.Acts) && a.Kind != reopen:
		return api.ErrState
	case (a.Kind == pay || a.Kind == back) && sum(all, a.Kind).Cmp(big.NewInt(maxMoney)) > 0:
		return api.ErrOver
	}
	return api.OK
}

// some is any act: most of them right, of days and amounts that often meet.
func some(r *rand.Rand) api.Act {
	amounts := []int{0, 0, 1, 5, 200, 1 << 40, maxMoney / 3, maxMoney / 2, maxMoney - 1, maxMoney}
	a := act(7+r.Intn(4), 1+r.Intn(5), amounts[r.Intn(len(amounts))])
	if a.Kind >= closing && r.Intn(9) > 0 {
		a.Amt = 0
	}
	switch r.Intn(20) {
	case 0:
		a.Amt = []int{-1, math.MaxInt, math.MinInt, maxMoney + 1, -maxMoney, 1 << 62}[r.Intn(6)]
	case 1:
		a.Kind = []int{0, 6, -1, math.MaxInt}[r.Intn(4)]
	case 2:
		a.Booked = []int{0, -1, 1, 6, maxDay, maxDay + 1}[r.Intn(6)]
	}
	return a
}

// Files of any acts, against the chapter's words.
func TestP18_6AnyFileByTheChaptersWords(t *testing.T) {
	r := rand.New(rand.NewSource(18))
	for range 20000 {
		f := held()
		for range r.Intn(10) {
			f.Acts = append(f.Acts, some(r))
		}
		checkStand(t, "any file", f, stood(f.Acts))
		a := some(r)
		if code := told(f, a); code != api.OK {
			checkCode(t, "any file", f, a, code)
		} else {
			checkPut(t, "any file", f, a)
		}
		day := 5 + r.Intn(8)
		checkAt(t, "any file", f, day, slices.DeleteFunc(slices.Clone(f.Acts), func(a api.Act) bool { return a.Booked > day })...)
		if t.Failed() {
			return
		}
	}
}

// Files as Put makes them, against the chapter's words.
func TestP18_6FilesOfPutByTheChaptersWords(t *testing.T) {
	r := rand.New(rand.NewSource(81))
	for range 400 {
		f := claim.Open(loss())
		for range 60 {
			a := some(r)
			a.Booked += len(f.Acts) / 4
			g, code := claim.Put(f, a)
			if want := told(f, a); code != want {
				t.Fatalf("Put of %v behind %v: code %d, want %d", a, tail(f), code, want)
			}
			if code != api.OK {
				continue
			}
			f = g
			if got := claim.Stand(f); got != stood(f.Acts) || got.Shown > maxMoney || got.Back > maxMoney || got.Paid != 0 || got.Reserve != 0 {
				t.Fatalf("Stand of %v: %+v", tail(f), got)
			}
		}
	}
}
