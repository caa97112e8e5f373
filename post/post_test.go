package post_test

import (
	"math"
	"math/big"
	"math/rand"
	"slices"
	"testing"

	"bordereau/api"
	"bordereau/post"
	"bordereau/span"
)

func of(from, to int) api.Span { return api.Span{From: from, To: to} }

// entry is one of a day: accounts and amounts by turns.
func entry(day int, l ...int) api.Entry { return entryFor(day, 0, l...) }

func entryFor(day, what int, l ...int) api.Entry {
	e := api.Entry{Day: day, For: what}
	for i := 0; i < len(l); i += 2 {
		e.Lines = append(e.Lines, api.Line{Acc: l[i], Amt: l[i+1]})
	}
	return e
}

func bookOf(l ...api.Entry) api.Book { return api.Book{Entries: l} }

func sameEntry(a, b api.Entry) bool {
	return a.Day == b.Day && a.For == b.For && slices.Equal(a.Lines, b.Lines)
}

func same(a, b api.Book) bool { return slices.EqualFunc(a.Entries, b.Entries, sameEntry) }

func cloneEntry(e api.Entry) api.Entry {
	e.Lines = slices.Clone(e.Lines)
	return e
}

func clone(b api.Book) api.Book {
	var l []api.Entry
	for _, e := range b.Entries {
		l = append(l, cloneEntry(e))
	}
	return bookOf(l...)
}

// isFormed tells by the words of P5.1, one by one, whether an entry is formed.
func isFormed(e api.Entry) bool {
	if e.Day < 1 || e.Day > 292194 || e.For < 0 || e.For > 1000000000 || len(e.Lines) < 2 || len(e.Lines) > 9 {
		return false
	}
	for i, line := range e.Lines {
		if line.Acc < 1 || line.Acc > 9 || line.Amt == 0 || line.Amt < -1000000000000000 || line.Amt > 1000000000000000 {
			return false
		}
		if i > 0 && line.Acc <= e.Lines[i-1].Acc {
			return false
		}
	}
	return true
}

// wholeSum is what an entry's amounts are together, of any size.
func wholeSum(e api.Entry) *big.Int {
	all := new(big.Int)
	for _, line := range e.Lines {
		all.Add(all, big.NewInt(int64(line.Amt)))
	}
	return all
}

func isRight(e api.Entry) bool { return isFormed(e) && wholeSum(e).Sign() == 0 }

// mustPut is the book of all these entries, each put.
func mustPut(t *testing.T, l ...api.Entry) api.Book {
	t.Helper()
	var b api.Book
	for i, e := range l {
		next, code := post.Put(b, e)
		if code != api.OK {
			t.Fatalf("Put of the entry at %d, %v: %d", i, e, code)
		}
		b = next
	}
	return b
}

// nineLines is an entry of a line for each account, and the last line's amount what is asked for.
func nineLines(amt, last int) api.Entry {
	e := entry(4)
	for acc := 1; acc <= 9; acc++ {
		e.Lines = append(e.Lines, api.Line{Acc: acc, Amt: amt})
		amt = -amt
	}
	e.Lines[8].Amt = last
	return e
}

func rightEntries() []api.Entry {
	all := entry(4, 1, 1, 2, 1, 3, 1, 4, 1, 5, 1, 6, 1, 7, 1, 8, 1, 9, -8)
	return []api.Entry{
		entry(1, 1, 5, 2, -5), entry(api.MaxDay, 1, 5, 2, -5), entry(4, 1, -5, 2, 5), entry(4, 8, 1, 9, -1), entry(4, 1, 1, 9, -1), entry(4, 1, -2, 5, 1, 9, 1), all,
		entryFor(4, 0, 1, 5, 2, -5), entryFor(4, 1, 1, 5, 2, -5), entryFor(4, api.MaxId, 1, 5, 2, -5),
		entry(4, 1, api.MaxMoney, 2, -api.MaxMoney), entry(4, 3, -api.MaxMoney, 7, api.MaxMoney), entry(4, 2, api.MaxMoney, 3, 1-api.MaxMoney, 4, -1),
	}
}

// unformedEntries are such that aren't formed: of each of the promise's words one at least. The amounts of all but the last three sum up to 0, so that nothing else is wrong with them.
func unformedEntries() []api.Entry {
	ten := nineLines(3, 2)
	ten.Lines[7].Amt = -2
	return []api.Entry{
		{}, entry(0, 1, 5, 2, -5), entry(-1, 1, 5, 2, -5), entry(api.MaxDay+1, 1, 5, 2, -5), entry(math.MinInt, 1, 5, 2, -5), entry(math.MaxInt, 1, 5, 2, -5), entry(1<<32+4, 1, 5, 2, -5),
		entryFor(4, -1, 1, 5, 2, -5), entryFor(4, api.MaxId+1, 1, 5, 2, -5), entryFor(4, math.MinInt, 1, 5, 2, -5), entryFor(4, math.MaxInt, 1, 5, 2, -5), entryFor(4, 1<<32, 1, 5, 2, -5),
		entry(4), entry(4, 1, 0), entry(4, 1, 0, 2, 0), entry(4, 1, 5, 2, 0, 3, -5), entry(4, 1, 5, 2, -5, 3, 0), entry(4, 1, 0, 2, 5, 3, -5),
		entry(4, 2, 5, 1, -5), entry(4, 1, 5, 1, -5), entry(4, 1, 5, 3, -3, 2, -2), entry(4, 1, 5, 2, -3, 2, -2), entry(4, 9, 5, 1, -5), entry(4, 1, 5, 2, -5, 1, 1, 2, -1),
		entry(4, 0, 5, 1, -5), entry(4, -1, 5, 1, -5), entry(4, -2, 5, -1, -5), entry(4, math.MinInt, 5, 1, -5), entry(4, 1, 5, 10, -5), entry(4, 9, 5, 10, -5), entry(4, 1, 5, math.MaxInt, -5), entry(4, 1<<32+1, 5, 1<<32+2, -5),
		entry(4, 1, api.MaxMoney+1, 2, -api.MaxMoney-1), entry(4, 1, -api.MaxMoney-1, 2, api.MaxMoney+1), entry(4, 1, api.MaxMoney+1, 2, -api.MaxMoney, 3, -1), entry(4, 1, api.MaxMoney, 2, 1, 3, -api.MaxMoney-1), entry(4, 1, math.MaxInt, 2, -math.MaxInt),
		{Day: 4, Lines: append(ten.Lines, api.Line{Acc: 9, Amt: -3})}, {Day: 4, Lines: append(slices.Clone(ten.Lines), api.Line{Acc: 10, Amt: -3})},
		// Of these the sums go round to 0.
		entry(4, 1, math.MinInt, 2, math.MinInt), entry(4, 1, math.MaxInt, 2, math.MaxInt, 3, 2),
		entry(4, 1, 5),
	}
}

// unevenEntries are formed, and their amounts sum up to something else than 0.
func unevenEntries() []api.Entry {
	return []api.Entry{
		entry(4, 1, 5, 2, -4), entry(4, 1, 5, 2, 5), entry(4, 1, -5, 2, -5), entry(4, 1, 5, 2, -6), entry(4, 1, 1, 2, 1, 3, -1), entry(4, 1, 1<<32, 2, -1<<33), entry(4, 1, 1<<31, 2, 1<<31),
		entry(4, 1, api.MaxMoney, 2, 1-api.MaxMoney), entry(4, 1, api.MaxMoney, 2, api.MaxMoney), nineLines(api.MaxMoney, api.MaxMoney), nineLines(-api.MaxMoney, -api.MaxMoney), nineLines(7, 1),
	}
}

func TestP5_1Right(t *testing.T) {
	for _, e := range rightEntries() {
		if !post.Right(e) {
			t.Errorf("%v isn't right", e)
		}
	}
	for _, e := range append(unformedEntries(), unevenEntries()...) {
		if post.Right(e) {
			t.Errorf("%v is right", e)
		}
	}
}

// checkRight holds Right, and what Put to an empty book answers, against the words of the promises.
func checkRight(t *testing.T, e api.Entry) {
	t.Helper()
	code := api.OK
	if !isFormed(e) {
		code = api.ErrArg
	} else if !isRight(e) {
		code = api.ErrSum
	}
	want := bookOf(e)
	if code != api.OK {
		want = api.Book{}
	}
	got, answer := post.Put(api.Book{}, e)
	if post.Right(e) != isRight(e) || answer != code || !same(got, want) {
		t.Errorf("%v: Right %v, Put %v, %d; want %v, %d", e, post.Right(e), got, answer, isRight(e), code)
	}
}

func TestP5_1P5_2RightOfAllPairs(t *testing.T) {
	accs := []int{math.MinInt, -1, 0, 1, 2, 8, 9, 10, math.MaxInt}
	amts := []int{math.MinInt, -api.MaxMoney - 1, -api.MaxMoney, -5, -1, 0, 1, 5, api.MaxMoney, api.MaxMoney + 1, math.MaxInt}
	for _, a := range accs {
		for _, b := range accs {
			for _, m := range amts {
				for _, n := range amts {
					checkRight(t, entry(4, a, m, b, n))
				}
			}
		}
	}
	for _, day := range []int{math.MinInt, -1, 0, 1, 2, api.MaxDay - 1, api.MaxDay, api.MaxDay + 1, math.MaxInt} {
		for _, what := range []int{math.MinInt, -1, 0, 1, 2, api.MaxId - 1, api.MaxId, api.MaxId + 1, math.MaxInt} {
			checkRight(t, entryFor(day, what, 1, 5, 2, -5))
			checkRight(t, entryFor(day, what, 1, 5, 2, -4))
		}
	}
}

func TestP5_1P5_2RightOfAllShortEntries(t *testing.T) {
	lines := []api.Line{{Acc: 0, Amt: 1}, {Acc: 1, Amt: 2}, {Acc: 1, Amt: -1}, {Acc: 2, Amt: 0}, {Acc: 2, Amt: -1}, {Acc: 3, Amt: -1}, {Acc: 9, Amt: 1}, {Acc: 10, Amt: -1}}
	lists := [][]api.Line{nil}
	for range 5 {
		var longer [][]api.Line
		for _, l := range lists {
			checkRight(t, api.Entry{Day: 7, For: 3, Lines: l})
			for _, line := range lines {
				longer = append(longer, append(slices.Clone(l), line))
			}
		}
		lists = longer
	}
}

func TestP5_1P5_2RightOfSoManyLines(t *testing.T) {
	for many := range 14 {
		rising, level := entry(4), entry(4)
		for i := range many {
			rising.Lines = append(rising.Lines, api.Line{Acc: i + 1, Amt: 1})
			level.Lines = append(level.Lines, api.Line{Acc: min(i+1, 9), Amt: 1})
		}
		if many > 1 {
			rising.Lines[many-1].Amt, level.Lines[many-1].Amt = 1-many, 1-many
		}
		checkRight(t, rising)
		checkRight(t, level)
		if got := post.Right(rising); got != (many >= 2 && many <= 9) {
			t.Errorf("Right of %d lines: %v", many, got)
		}
	}
}

func TestP5_2Put(t *testing.T) {
	one, two, three := entryFor(3, 8, 1, 5, 2, -5), entryFor(3, 9, 1, -2, 5, 1, 9, 1), entryFor(api.MaxDay, 8, 4, 1, 6, -1)
	b := mustPut(t, one, two)
	if !same(b, bookOf(one, two)) {
		t.Fatalf("put: %v", b)
	}
	for _, x := range []struct {
		b    api.Book
		e    api.Entry
		code api.Errno
	}{
		{b, three, api.OK}, {b, one, api.OK}, {b, entry(4, 1, 5, 2, -5), api.OK}, {b, entry(2, 1, 5, 2, -5), api.ErrOrder}, {b, entry(1, 1, 5, 2, -5), api.ErrOrder},
		{mustPut(t, three), three, api.OK}, {mustPut(t, three), entry(api.MaxDay-1, 1, 5, 2, -5), api.ErrOrder},
		// Of a book that wasn't made by Put too the last entry's day alone is asked, whatever it is, and the others stay as they are.
		{bookOf(entry(9), entry(3, 1, 5)), entry(3, 1, 5, 2, -5), api.OK}, {bookOf(entry(9), entry(3)), entry(2, 1, 5, 2, -5), api.ErrOrder}, {bookOf(entry(1), entry(9)), entry(8, 1, 5, 2, -5), api.ErrOrder}, {bookOf(entryFor(0, -1, 0, 0, 0, 7)), entry(1, 1, 5, 2, -5), api.OK},
		{bookOf(entry(math.MinInt)), entry(1, 1, 5, 2, -5), api.OK}, {bookOf(entry(math.MaxInt)), three, api.ErrOrder}, {bookOf(entry(api.MaxDay + 1)), three, api.ErrOrder},
	} {
		want := bookOf(append(slices.Clone(x.b.Entries), x.e)...)
		if x.code != api.OK {
			want = api.Book{}
		}
		if got, code := post.Put(x.b, x.e); code != x.code || !same(got, want) {
			t.Errorf("Put(%v, %v): %v, %d; want %v, %d", x.b, x.e, got, code, want, x.code)
		}
	}
	for _, e := range rightEntries() {
		if got, code := post.Put(api.Book{Entries: []api.Entry{}}, e); code != api.OK || !same(got, bookOf(e)) {
			t.Errorf("Put of %v: %v, %d", e, got, code)
		}
	}
}

func TestP5_2PutOfWhatIsWrong(t *testing.T) {
	for _, b := range []api.Book{{}, mustPut(t, entry(3, 1, 5, 2, -5)), mustPut(t, entry(5, 1, 5, 2, -5)), {Entries: make([]api.Entry, api.MaxRows)}} {
		for _, e := range unformedEntries() {
			if got, code := post.Put(b, e); code != api.ErrArg || len(got.Entries) != 0 {
				t.Errorf("Put of %v: %v, %d", e, got, code)
			}
		}
		for _, e := range unevenEntries() {
			if got, code := post.Put(b, e); code != api.ErrSum || len(got.Entries) != 0 {
				t.Errorf("Put of %v: %v, %d", e, got, code)
			}
		}
	}
}

func TestP5_2WhichCodeIsFirst(t *testing.T) {
	const unformed, uneven, full, early = 1, 2, 4, 8
	for faults := range 16 {
		e, want := entry(6, 1, 5, 2, -5), api.OK
		var b api.Book
		b.Entries = make([]api.Entry, 1)
		if faults&early != 0 {
			e.Day, want = 3, api.ErrOrder
		}
		if faults&full != 0 {
			b.Entries, want = make([]api.Entry, api.MaxRows), api.ErrBound
		}
		if faults&uneven != 0 {
			e.Lines[1].Amt, want = -6, api.ErrSum
		}
		if faults&unformed != 0 {
			e.For, want = -1, api.ErrArg
		}
		b.Entries[len(b.Entries)-1].Day = 5
		if got, code := post.Put(b, e); code != want || code != api.OK && len(got.Entries) != 0 {
			t.Errorf("faults %b: %d entries, %d; want %d", faults, len(got.Entries), code, want)
		}
	}
}

func TestP5_2Bound(t *testing.T) {
	var b api.Book
	for i := range api.MaxRows {
		next, code := post.Put(b, entryFor(1+i/3, i, 1, i+1, 2, -i-1))
		if code != api.OK || len(next.Entries) != i+1 {
			t.Fatalf("Put at %d: %d entries, %d", i, len(next.Entries), code)
		}
		b = next
	}
	for i, e := range b.Entries {
		if !sameEntry(e, entryFor(1+i/3, i, 1, i+1, 2, -i-1)) {
			t.Errorf("the entry at %d: %v", i, e)
		}
	}
	if got := post.Balance(b, 1, api.MaxDay); got != api.MaxRows*(api.MaxRows+1)/2 {
		t.Errorf("Balance of a full book: %d", got)
	}
	more := bookOf(append(slices.Clone(b.Entries), entry(api.MaxDay, 1, 5, 2, -5))...)
	for _, full := range []api.Book{b, more} {
		if got, code := post.Put(full, entry(api.MaxDay, 1, 5, 2, -5)); code != api.ErrBound || len(got.Entries) != 0 {
			t.Errorf("Put to %d entries: %d entries, %d", len(full.Entries), len(got.Entries), code)
		}
	}
}

// TestP5_2PutSharesNothing: two entries that are put to one book don't write over each other, and what is done to what was handed in isn't seen in the answer, nor the other way round.
func TestP5_2PutSharesNothing(t *testing.T) {
	first := entry(3, 1, 5, 2, -5)
	roomy := append(make([]api.Entry, 0, 8), cloneEntry(first))
	base := api.Book{Entries: roomy}
	one, other := entryFor(9, 1, 1, 1, 2, -1), entryFor(9, 2, 1, 2, 2, -2)
	x, _ := post.Put(base, one)
	y, _ := post.Put(base, other)
	z, _ := post.Put(x, other)
	wantX, wantY, wantZ := bookOf(first, cloneEntry(one)), bookOf(first, cloneEntry(other)), bookOf(first, cloneEntry(one), cloneEntry(other))
	if !same(base, bookOf(first)) || !same(x, wantX) || !same(y, wantY) || !same(z, wantZ) {
		t.Fatalf("two put to one: %v, %v, %v, %v", base, x, y, z)
	}
	if !sameEntry(roomy[:2][1], api.Entry{}) {
		t.Errorf("Put wrote behind the book: %v", roomy[:2])
	}
	one.Lines[0].Amt, other.Lines[1].Acc = 99, 7
	base.Entries[0].Day, base.Entries[0].Lines[0].Amt = 77, 77
	if !same(x, wantX) || !same(y, wantY) || !same(z, wantZ) {
		t.Errorf("what was handed in was changed, and seen: %v, %v, %v", x, y, z)
	}
	x.Entries[0].Lines[1].Amt, x.Entries[1].For, x.Entries[1].Lines[0].Acc = 88, 88, 88
	_ = append(z.Entries[0].Lines, api.Line{Acc: 9, Amt: 9})
	if !same(y, wantY) || !same(z, wantZ) || base.Entries[0].Lines[1].Amt != -5 || one.Lines[0].Acc != 1 {
		t.Errorf("an answer was changed, and seen: %v, %v, %v, %v", base, one, y, z)
	}
}

func TestP5_3Told(t *testing.T) {
	// The chapter's own example.
	b := mustPut(t, entry(3, api.ACash, 5, api.ADue, -5), entry(7, api.ACash, -2, api.APaid, 2))
	for _, x := range [][3]int{
		{api.ACash, 3, 5}, {api.ACash, 6, 5}, {api.ACash, 7, 3}, {api.ACash, 2, 0}, {api.ACash, 0, 0}, {api.ACash, -1, 0}, {api.ACash, math.MinInt, 0}, {api.ACash, api.MaxDay, 3}, {api.ACash, api.MaxDay + 1, 3}, {api.ACash, math.MaxInt, 3},
		{api.ADue, 3, -5}, {api.ADue, 9, -5}, {api.APaid, 6, 0}, {api.APaid, 7, 2}, {api.AEarned, 9, 0}, {0, 9, 0}, {-1, 9, 0}, {10, 9, 0}, {math.MinInt, 9, 0}, {math.MaxInt, 9, 0}, {1<<32 + 1, 9, 0},
	} {
		if got := post.Balance(b, x[0], x[1]); got != x[2] {
			t.Errorf("Balance(%d, %d): %d; want %d", x[0], x[1], got, x[2])
		}
	}
	for _, x := range []struct {
		acc  int
		s    api.Span
		want int
	}{
		{1, of(1, 3), 0}, {1, of(1, 4), 5}, {1, of(3, 4), 5}, {1, of(3, 7), 5}, {1, of(3, 8), 3}, {1, of(4, 7), 0}, {1, of(4, 8), -2}, {1, of(7, 8), -2}, {1, of(8, 9), 0}, {1, of(1, api.MaxDay+1), 3}, {2, of(1, 9), -5}, {5, of(7, 9), 2}, {4, of(1, 9), 0}, {0, of(1, 9), 0}, {10, of(1, 9), 0},
		{1, api.Span{}, 0}, {1, of(3, 3), 0}, {1, of(7, 3), 0}, {1, of(0, 4), 0}, {1, of(-1, 4), 0}, {1, of(3, api.MaxDay+2), 0}, {1, of(math.MinInt, math.MaxInt), 0},
	} {
		if got := post.Turn(b, x.acc, x.s); got != x.want {
			t.Errorf("Turn(%d, %v): %d; want %d", x.acc, x.s, got, x.want)
		}
	}
	for _, x := range []struct {
		day  int
		want [10]int
	}{{math.MinInt, [10]int{}}, {0, [10]int{}}, {2, [10]int{}}, {3, [10]int{1: 5, 2: -5}}, {6, [10]int{1: 5, 2: -5}}, {7, [10]int{1: 3, 2: -5, 5: 2}}, {api.MaxDay, [10]int{1: 3, 2: -5, 5: 2}}, {math.MaxInt, [10]int{1: 3, 2: -5, 5: 2}}} {
		if got := post.Trial(b, x.day); got != x.want {
			t.Errorf("Trial on %d: %v; want %v", x.day, got, x.want)
		}
	}
	last := mustPut(t, entry(1, 1, 1, 9, -1), entry(api.MaxDay, 1, 1, 9, -1))
	if got := post.Turn(last, 9, of(api.MaxDay, api.MaxDay+1)); got != -1 {
		t.Errorf("Turn of the last day: %d", got)
	}
	if got := post.Trial(last, api.MaxDay); got != [10]int{1: 2, 9: -2} {
		t.Errorf("Trial of the last day: %v", got)
	}
	if got := post.Trial(api.Book{}, 5); got != [10]int{} || post.Balance(api.Book{}, 1, 5) != 0 || post.Turn(api.Book{}, 1, of(1, 9)) != 0 {
		t.Errorf("Trial of no entries: %v", got)
	}
}

func TestP5_3OfBooksNotMadeByPut(t *testing.T) {
	b := bookOf(entry(9, 1, 5), entry(3, 1, 2, 1, 3, 0, 4, 0, 6), entry(0, 1, 7, 10, 8, 9, 9), entry(-4, 2, 1, -3, 2), entry(api.MaxDay+5, 1, 100), entry(5))
	for _, x := range [][3]int{{1, 9, 17}, {1, 8, 12}, {1, 3, 12}, {1, 2, 7}, {1, -1, 0}, {2, -4, 1}, {2, -5, 0}, {0, 9, 10}, {10, 9, 8}, {-3, 9, 2}, {9, 0, 9}, {1, api.MaxDay, 17}, {1, api.MaxDay + 5, 117}} {
		if got := post.Balance(b, x[0], x[1]); got != x[2] {
			t.Errorf("Balance(%d, %d): %d; want %d", x[0], x[1], got, x[2])
		}
	}
	if got := post.Trial(b, 9); got != [10]int{0, 17, 1, 0, 0, 0, 0, 0, 0, 9} {
		t.Errorf("Trial: %v", got)
	}
	if one, none, whole := post.Turn(b, 1, of(3, 10)), post.Turn(b, 0, of(1, 9)), post.Turn(b, 1, of(1, api.MaxDay+1)); one != 10 || none != 10 || whole != 10 {
		t.Errorf("Turn: %d, %d, %d", one, none, whole)
	}
	// Sums go round at 2^64.
	round := bookOf(entry(1, 1, math.MaxInt, 2, math.MinInt), entry(2, 1, 1, 2, math.MinInt), entry(3, 1, math.MaxInt, 1, math.MaxInt, 2, -1))
	for _, x := range [][3]int{{1, 1, math.MaxInt}, {1, 2, math.MinInt}, {1, 3, math.MaxInt - 1}, {2, 2, 0}, {2, 3, -1}} {
		if got := post.Balance(round, x[0], x[1]); got != x[2] || post.Trial(round, x[1])[x[0]] != x[2] || post.Turn(round, x[0], of(1, x[1]+1)) != x[2] {
			t.Errorf("Balance(%d, %d): %d; want %d", x[0], x[1], got, x[2])
		}
	}
}

// added is an account's amounts in those entries whose day is asked for, reckoned as whole numbers, and cut to 64 bits at the end.
func added(b api.Book, acc int, asked func(day int) bool) int {
	all := new(big.Int)
	for _, e := range b.Entries {
		for _, line := range e.Lines {
			if line.Acc == acc && asked(e.Day) {
				all.Add(all, big.NewInt(int64(line.Amt)))
			}
		}
	}
	low := new(big.Int).And(all, new(big.Int).SetUint64(math.MaxUint64))
	return int(low.Uint64())
}

func TestP5_3OfRandomBooks(t *testing.T) {
	r := rand.New(rand.NewSource(53))
	for range 400 {
		var b api.Book
		for range r.Intn(12) {
			e := entryFor(r.Intn(14)-2, r.Intn(3))
			for range r.Intn(6) {
				amt := r.Intn(9) - 4
				if r.Intn(3) == 0 {
					amt = int(r.Uint64())
				}
				e.Lines = append(e.Lines, api.Line{Acc: r.Intn(13) - 1, Amt: amt})
			}
			b.Entries = append(b.Entries, e)
		}
		given := clone(b)
		day, s := r.Intn(16)-3, of(r.Intn(14)-1, r.Intn(14)-1)
		trial := post.Trial(b, day)
		for acc := -1; acc <= 11; acc++ {
			balance := added(given, acc, func(d int) bool { return d <= day })
			turn := added(given, acc, func(d int) bool { return s.From >= 1 && s.From <= d && d < s.To })
			if got := post.Balance(b, acc, day); got != balance {
				t.Errorf("Balance(%v, %d, %d): %d; want %d", b, acc, day, got, balance)
			}
			if got := post.Turn(b, acc, s); got != turn {
				t.Errorf("Turn(%v, %d, %v): %d; want %d", b, acc, s, got, turn)
			}
			if acc >= 1 && acc <= 9 && trial[acc] != balance {
				t.Errorf("Trial(%v, %d): %v; want %d at %d", b, day, trial, balance, acc)
			}
		}
		if trial[0] != 0 {
			t.Errorf("Trial(%v, %d): %v", b, day, trial)
		}
		if !same(b, given) {
			t.Errorf("%v was changed to %v", given, b)
		}
	}
}

// randomEntry is a right entry of a day.
func randomEntry(r *rand.Rand, day int) api.Entry {
	accs := r.Perm(9)[:2+r.Intn(8)]
	slices.Sort(accs)
	e := entryFor(day, r.Intn(api.MaxId+1))
	left := 0
	for i, acc := range accs {
		amt := 1 + r.Intn(api.MaxMoney/10)
		// A sign against what is left keeps it within MaxMoney.
		if left > 0 || left == 0 && r.Intn(2) == 0 {
			amt = -amt
		}
		if i == len(accs)-2 && left+amt == 0 {
			amt *= 2
		}
		if i == len(accs)-1 {
			amt = -left
		}
		left += amt
		e.Lines = append(e.Lines, api.Line{Acc: acc + 1, Amt: amt})
	}
	return e
}

// madeByPut is a book of random entries, each put, and checked when it is: none of what it told of days ahead may change.
func madeByPut(t *testing.T, r *rand.Rand, base int) api.Book {
	t.Helper()
	var b api.Book
	day := base + r.Intn(3)
	for range r.Intn(20) {
		day = min(day+r.Intn(4)*r.Intn(2), api.MaxDay)
		e := randomEntry(r, day)
		next, code := post.Put(b, e)
		if code != api.OK || !post.Right(e) || !same(next, bookOf(append(slices.Clone(b.Entries), e)...)) {
			t.Fatalf("Put(%v, %v): %v, %d", b, e, next, code)
		}
		for ahead := max(base-1, 0); ahead < day; ahead++ {
			if post.Trial(next, ahead) != post.Trial(b, ahead) {
				t.Errorf("Trial of %d changed by %v: %v; it was %v", ahead, e, post.Trial(next, ahead), post.Trial(b, ahead))
			}
		}
		b = next
	}
	return b
}

func TestP5_4TrialsSumUp(t *testing.T) {
	r := rand.New(rand.NewSource(54))
	for i := range 200 {
		base := 1
		if i%4 == 0 {
			base = api.MaxDay - 20
		}
		b := madeByPut(t, r, base)
		days := []int{math.MinInt, 0, api.MaxDay, api.MaxDay + 1, math.MaxInt}
		for d := base - 2; d < base+70; d++ {
			days = append(days, d)
		}
		for _, day := range days {
			all := 0
			for acc, amt := range post.Trial(b, day) {
				if amt != post.Balance(b, acc, day) {
					t.Errorf("Trial of %d: %d at %d", day, amt, acc)
				}
				all += amt
			}
			if all != 0 {
				t.Errorf("Trial of %d sums up to %d: %v", day, all, b)
			}
		}
	}
}

// turns is what the Turns of spans are together.
func turns(b api.Book, acc int, l []api.Span) int {
	all := 0
	for _, s := range l {
		all += post.Turn(b, acc, s)
	}
	return all
}

func TestP5_4TurnsOfSpans(t *testing.T) {
	r := rand.New(rand.NewSource(541))
	for i := range 60 {
		base := 1
		if i%4 == 0 {
			base = api.MaxDay - 20
		}
		b := madeByPut(t, r, base)
		for from := base; from < base+20; from++ {
			for to := from; to <= base+20; to++ {
				s, acc := of(from, to), 1+r.Intn(9)
				if got, want := post.Turn(b, acc, s), post.Balance(b, acc, to-1)-post.Balance(b, acc, from-1); got != want {
					t.Errorf("Turn(%d, %v): %d; the Balances: %d", acc, s, got, want)
				}
				parts := span.Parts(s, []int{base + r.Intn(20), base + r.Intn(20), base + r.Intn(20)})
				if got, want := turns(b, acc, parts), post.Turn(b, acc, s); got != want {
					t.Errorf("Turns of %v: %d; that of %v: %d", parts, got, s, want)
				}
				hole := of(base+r.Intn(20), base+r.Intn(20))
				if got, want := turns(b, acc, span.Less(s, hole))+post.Turn(b, acc, span.Cut(s, hole)), post.Turn(b, acc, s); got != want {
					t.Errorf("Turns of %v without and within %v: %d; together %d", s, hole, got, want)
				}
				apart := append(span.Less(s, hole), span.Less(hole, s)...)
				if got, want := turns(b, acc, apart), turns(b, acc, span.Join(apart)); got != want {
					t.Errorf("Turns of %v: %d; joined: %d", apart, got, want)
				}
			}
		}
	}
}
