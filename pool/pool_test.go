package pool_test

import (
	"math"
	"slices"
	"testing"

	"cascade/api"
	"cascade/pool"
)

const (
	maxCents = api.MaxCents
	maxLate  = api.MaxLate
	maxLoans = api.MaxLoans
)

// loan is one as it begins.
func loan(id, balance int) pool.Loan {
	return pool.Loan{Loan: api.Loan{Id: id, Balance: balance}}
}

// over is one that defaulted.
func over(id, lost int) pool.Loan {
	return pool.Loan{Loan: api.Loan{Id: id}, Lost: lost, Over: true}
}

// late is one that is late.
func late(id, balance, months int) pool.Loan {
	l := loan(id, balance)
	l.Late = months
	return l
}

// alone is a pool of that one loan, as Apply brings it there.
func alone(t *testing.T, l pool.Loan) *pool.Pool {
	t.Helper()
	p := pool.New(api.Loan{Id: l.Id, Balance: l.Balance + l.Lost})
	p.Apply([]api.Line{{Id: l.Id, Late: l.Late, Default: l.Over}})
	shows(t, "made", p, l)
	return p
}

// four is a pool of a loan in each state: with a Balance, late, over, and
// without a Balance.
func four(t *testing.T) *pool.Pool {
	t.Helper()
	p := pool.New(
		api.Loan{Id: 2, Balance: 100}, api.Loan{Id: 4, Balance: 50},
		api.Loan{Id: 6, Balance: 40}, api.Loan{Id: 8, Balance: 0},
	)
	p.Apply([]api.Line{{Id: 4, Late: 5}, {Id: 6, Default: true, Recov: 10}})
	shows(t, "four", p, loan(2, 100), late(4, 50, 5), over(6, 30), loan(8, 0))
	return p
}

// many are count loans with Ids that leave room between them.
func many(count int) []api.Loan {
	l := make([]api.Loan, count)
	for i := range l {
		l[i] = api.Loan{Id: 3 + 2*i, Balance: 10 + i*i}
	}
	return l
}

// shows checks all that a pool tells of itself.
func shows(t *testing.T, name string, p *pool.Pool, want ...pool.Loan) {
	t.Helper()
	if got := p.Loans(); !slices.Equal(got, want) {
		t.Errorf("%s: Loans = %v; want %v", name, got, want)
	}
	balance, lost := 0, 0
	for _, l := range want {
		balance += l.Balance
		lost += l.Lost
		if got, ok := p.Find(l.Id); got != l || !ok {
			t.Errorf("%s: Find(%d) = %v, %v; want %v", name, l.Id, got, ok, l)
		}
	}
	if p.Balance() != balance || p.Lost() != lost {
		t.Errorf("%s: Balance %d, Lost %d; want %d, %d", name, p.Balance(), p.Lost(), balance, lost)
	}
}

// does checks a tape that may be: what it comes to, and the pool behind it.
func does(t *testing.T, name string, p *pool.Pool, l []api.Line, agg pool.Agg, want ...pool.Loan) {
	t.Helper()
	if got, e := p.Apply(l); got != agg || e != api.OK {
		t.Errorf("%s: Apply(%v) = %v, %d; want %v", name, l, got, e, agg)
	}
	shows(t, name, p, want...)
}

// refuses checks a tape that may not be.
func refuses(t *testing.T, name string, p *pool.Pool, l ...api.Line) {
	t.Helper()
	was := p.Loans()
	if got, e := p.Apply(l); got != (pool.Agg{}) || e != api.ErrTape {
		t.Errorf("%s: Apply(%v) = %v, %d", name, l, got, e)
	}
	shows(t, name, p, was...)
}

// The chapter's run.
func TestRun(t *testing.T) {
	p := pool.New(api.Loan{Id: 1, Balance: 100})
	does(t, "run", p, []api.Line{{Id: 1, Principal: 30, Default: true, Recov: 20}},
		pool.Agg{Principal: 30, Losses: 70, Recov: 20}, over(1, 50))
	refuses(t, "run", p, api.Line{Id: 1, Principal: 1})
}

// Ways: a Loan has its Id and Balance of api.Loan.
func TestEmbedding(t *testing.T) {
	l := pool.Loan{Loan: api.Loan{Id: 7, Balance: 9}, Lost: 1, Late: 2, Over: true}
	if l.Id != 7 || l.Balance != 9 || l.Loan != (api.Loan{Id: 7, Balance: 9}) {
		t.Error(l)
	}
	l.Balance = 3
	if l.Loan.Balance != 3 {
		t.Error("promoted", l)
	}
}

// P9.1: no loan, one, MaxLoans, and each number between them.
func TestNew(t *testing.T) {
	shows(t, "of no arguments", pool.New())
	shows(t, "nil", pool.New([]api.Loan(nil)...))
	shows(t, "empty", pool.New([]api.Loan{}...))
	for _, balance := range []int{0, 1, 2, maxCents - 1, maxCents} {
		for _, id := range []int{1, 2, maxLoans, 1 << 40, math.MaxInt} {
			shows(t, "one", pool.New(api.Loan{Id: id, Balance: balance}), loan(id, balance))
		}
	}
	for count := range maxLoans + 1 {
		begun := many(count)
		want := make([]pool.Loan, count)
		for i, l := range begun {
			want[i] = loan(l.Id, l.Balance)
		}
		shows(t, "many", pool.New(begun...), want...)
		for i := range begun {
			begun[i].Balance, want[i].Balance = maxCents, maxCents
		}
		p := pool.New(begun...)
		shows(t, "the most of many", p, want...)
		if p.Balance() != count<<40 {
			t.Errorf("%d of MaxCents: %d", count, p.Balance())
		}
	}
}

// P9.1 and R2: what New was handed is neither kept nor changed, nor is what
// lies behind it.
func TestWhatNewWasHanded(t *testing.T) {
	for _, count := range []int{0, 1, 3, maxLoans} {
		room := append(many(count), api.Loan{Id: 901, Balance: 902}, api.Loan{Id: 903, Balance: 904})
		before := slices.Clone(room)
		p := pool.New(room[:count]...)
		was := p.Loans()
		if len(was) != count {
			t.Errorf("%d loans: %v", count, was)
		}
		for _, l := range was {
			p.Apply([]api.Line{{Id: l.Id, Principal: 1, Prepaid: 2, Late: 3, Default: l.Id%4 == 3}})
		}
		if !slices.Equal(room, before) {
			t.Errorf("%d loans: turned to %v", count, room)
		}
		was = p.Loans()
		clear(room)
		shows(t, "once it was cleared", p, was...)
	}
}

// P9.1: a copy is the same, in whatever state the pool is, and goes on by
// itself.
func TestCopy(t *testing.T) {
	shows(t, "of none", pool.New().Copy())
	p := four(t)
	was := p.Loans()
	q := p.Copy()
	shows(t, "copied", q, was...)
	if p == q {
		t.Error("the pool itself")
	}
	tape := []api.Line{{Id: 2, Principal: 5, Late: 1}, {Id: 4, Default: true}, {Id: 6, Recov: 7}, {Id: 8, Default: true}}
	behind := []pool.Loan{late(2, 95, 1), over(4, 50), over(6, 23), over(8, 0)}
	agg := pool.Agg{Principal: 5, Losses: 50, Recov: 7}
	does(t, "the copy", q, tape, agg, behind...)
	shows(t, "behind what was done to its copy", p, was...)
	r := q.Copy()
	does(t, "the pool", p, []api.Line{{Id: 2, Prepaid: 100}}, pool.Agg{Principal: 100}, loan(2, 0), was[1], was[2], was[3])
	shows(t, "behind what was done to what it was copied from", q, behind...)
	refuses(t, "the copy", q, api.Line{Id: 2, Principal: 1}, api.Line{Id: 6, Recov: 24})
	does(t, "a copy's copy", r, []api.Line{{Id: 6, Recov: 23}}, pool.Agg{Recov: 23}, behind[0], behind[1], over(6, 0), behind[3])
	shows(t, "behind all", q, behind...)
	for count := range maxLoans + 1 {
		p := pool.New(many(count)...)
		q := p.Copy()
		for _, l := range p.Loans() {
			p.Apply([]api.Line{{Id: l.Id, Prepaid: l.Balance}})
		}
		shows(t, "a copy of many", q, pool.New(many(count)...).Loans()...)
	}
}

// P9.3 and R2: what Loans hands out is the caller's own, its spare room too.
func TestWhatLoansHandsOut(t *testing.T) {
	p := four(t)
	q := p.Copy()
	first, second := p.Loans(), p.Loans()
	want := slices.Clone(first)
	for i := range first {
		first[i] = pool.Loan{Loan: api.Loan{Id: 70 + i, Balance: 80}, Lost: 90, Late: 9, Over: true}
	}
	first = append(first, first...)
	shows(t, "behind turned loans", p, want...)
	shows(t, "the copy behind turned loans", q, want...)
	if !slices.Equal(second, want) {
		t.Error("two lists share", second)
	}
	p.Apply([]api.Line{{Id: 2, Principal: 9, Late: 4, Default: true}, {Id: 4, Late: 6}})
	if !slices.Equal(second, want) {
		t.Error("Apply turned what Loans handed out", second)
	}
	l, _ := p.Find(4)
	l.Balance, l.Late = 1, 1
	if again, ok := p.Find(4); again != late(4, 50, 6) || !ok {
		t.Error("Find hands out the pool's own", again)
	}
}

// P9.2: no line, and lines with nothing in them.
func TestApplyNothing(t *testing.T) {
	was := four(t).Loans()
	for _, p := range []*pool.Pool{pool.New(), four(t), pool.New(many(maxLoans)...)} {
		loans := p.Loans()
		does(t, "nil", p, nil, pool.Agg{}, loans...)
		does(t, "empty", p, []api.Line{}, pool.Agg{}, loans...)
	}
	for i, l := range was {
		// A line tells how late its loan is, even if it tells nothing else.
		want := slices.Clone(was)
		want[i].Late = 0
		does(t, "an Id alone", four(t), []api.Line{{Id: l.Id}}, pool.Agg{}, want...)
	}
}

// P9.2: a line of an Id that no loan has: ahead of all, between two, behind all.
func TestApplyOfNoLoan(t *testing.T) {
	for _, id := range []int{1, 3, 5, 7, 9, 65, 1 << 40, math.MaxInt} {
		refuses(t, "no loan of it", four(t), api.Line{Id: id})
		refuses(t, "no loan of it", four(t), api.Line{Id: id, Interest: 1})
		refuses(t, "no loan of it", four(t), api.Line{Id: id, Default: true})
		refuses(t, "no loan at all", pool.New(), api.Line{Id: id})
		lines := []api.Line{{Id: 2, Principal: 1}, {Id: 4, Principal: 1}, {Id: 6, Recov: 1}, {Id: 8, Interest: 1}}
		at := 0
		for at < len(lines) && lines[at].Id < id {
			at++
		}
		refuses(t, "among others", four(t), slices.Insert(lines, at, api.Line{Id: id})...)
	}
	refuses(t, "a place isn't an Id", pool.New(many(5)...), api.Line{Id: 1})
	refuses(t, "a place isn't an Id", pool.New(many(5)...), api.Line{Id: 2})
}

// P9.2: Principal and Prepaid, each alone and both, around what the Balance is.
func TestApplyPayments(t *testing.T) {
	for _, balance := range []int{0, 1, 2, 100, maxCents - 1, maxCents} {
		for _, paid := range []int{0, 1, balance - 1, balance, balance + 1} {
			if paid < 0 {
				continue
			}
			for _, prepaid := range []int{0, 1, paid / 2, paid - 1, paid} {
				if prepaid < 0 || prepaid > paid {
					continue
				}
				line := api.Line{Id: 5, Principal: paid - prepaid, Prepaid: prepaid}
				for _, begun := range []pool.Loan{loan(5, balance), late(5, balance, 3)} {
					if balance == 0 && begun.Late > 0 {
						continue
					}
					if paid > balance {
						refuses(t, "paid too much", alone(t, begun), line)
						continue
					}
					does(t, "paid", alone(t, begun), []api.Line{line}, pool.Agg{Principal: paid}, loan(5, balance-paid))
				}
			}
		}
	}
	both := api.Line{Id: 5, Principal: maxCents, Prepaid: maxCents}
	refuses(t, "the most of both", alone(t, loan(5, maxCents)), both)
	refuses(t, "the most of both", alone(t, loan(5, 0)), both)
}

// P9.2: a Default, whatever was paid with it, and Recovs around what is lost.
func TestApplyDefaults(t *testing.T) {
	for _, balance := range []int{0, 1, 2, 100, maxCents - 1, maxCents} {
		for _, paid := range []int{0, 1, balance / 2, balance - 1, balance} {
			if paid < 0 || paid > balance {
				continue
			}
			lost := balance - paid
			for _, recov := range []int{0, 1, lost - 1, lost, lost + 1, maxCents} {
				if recov < 0 {
					continue
				}
				for _, prepaid := range []int{0, paid / 2, paid} {
					line := api.Line{
						Id: 5, Principal: paid - prepaid, Prepaid: prepaid, Interest: 7, Recov: recov, Late: 4, Default: true,
					}
					if recov > lost {
						refuses(t, "recovered too much", alone(t, loan(5, balance)), line)
						continue
					}
					agg := pool.Agg{Principal: paid, Interest: 7, Losses: lost, Recov: recov}
					does(t, "defaults", alone(t, loan(5, balance)), []api.Line{line}, agg, over(5, lost-recov))
				}
			}
			line := api.Line{Id: 5, Principal: paid, Prepaid: lost + 1, Default: true}
			if line.Prepaid <= maxCents {
				refuses(t, "paid too much", alone(t, loan(5, balance)), line)
			}
		}
	}
	does(t, "a late one", alone(t, late(5, 100, 9)), []api.Line{{Id: 5, Default: true}}, pool.Agg{Losses: 100}, over(5, 100))
}

// P9.2: Recov of a loan that isn't over, without Default.
func TestApplyRecovOfNoDefault(t *testing.T) {
	for _, begun := range []pool.Loan{loan(5, 100), loan(5, 0), loan(5, maxCents), late(5, 100, 12)} {
		for _, recov := range []int{1, 50, 100, maxCents} {
			refuses(t, "Recov alone", alone(t, begun), api.Line{Id: 5, Recov: recov})
			refuses(t, "Recov beside others", alone(t, begun), api.Line{Id: 5, Interest: 3, Recov: recov, Late: 2})
		}
	}
	refuses(t, "beside all that was left", alone(t, loan(5, 100)), api.Line{Id: 5, Principal: 60, Prepaid: 40, Recov: 1})
}

// P9.2: of a loan that is over nothing comes but Recov.
func TestApplyToWhatIsOver(t *testing.T) {
	for _, lost := range []int{0, 1, 50, maxCents} {
		begun := over(5, lost)
		for _, line := range []api.Line{
			{Id: 5, Principal: 1}, {Id: 5, Principal: maxCents}, {Id: 5, Prepaid: 1}, {Id: 5, Prepaid: maxCents},
			{Id: 5, Interest: 1}, {Id: 5, Interest: maxCents}, {Id: 5, Late: 1}, {Id: 5, Late: maxLate},
			{Id: 5, Default: true},
		} {
			refuses(t, "over", alone(t, begun), line)
			line.Recov = min(lost, 1)
			refuses(t, "over, beside a Recov", alone(t, begun), line)
			line.Recov = lost
			refuses(t, "over, beside all Recov", alone(t, begun), line)
		}
		for _, recov := range []int{0, 1, lost / 2, lost - 1, lost} {
			if recov < 0 || recov > lost {
				continue
			}
			p := alone(t, begun)
			does(t, "recovers", p, []api.Line{{Id: 5, Recov: recov}}, pool.Agg{Recov: recov}, over(5, lost-recov))
			if lost-recov < maxCents {
				refuses(t, "one cent past what is lost still", p, api.Line{Id: 5, Recov: lost - recov + 1})
			}
			does(t, "the rest", p, []api.Line{{Id: 5, Recov: lost - recov}}, pool.Agg{Recov: lost - recov}, over(5, 0))
			refuses(t, "nothing is lost any more", p, api.Line{Id: 5, Recov: 1})
			does(t, "an Id alone", p, []api.Line{{Id: 5}}, pool.Agg{}, over(5, 0))
		}
	}
	// Over stays over, though nothing was lost of it.
	p := alone(t, loan(5, 0))
	does(t, "defaults with nothing left", p, []api.Line{{Id: 5, Default: true}}, pool.Agg{}, over(5, 0))
	refuses(t, "defaults again", p, api.Line{Id: 5, Default: true})
	refuses(t, "interest behind it", p, api.Line{Id: 5, Interest: 1})
}

// P9.2: how late a loan is behind its line.
func TestApplyLate(t *testing.T) {
	for months := range maxLate + 1 {
		p := alone(t, loan(5, 100))
		does(t, "late", p, []api.Line{{Id: 5, Late: months}}, pool.Agg{}, late(5, 100, months))
		does(t, "later or less late", p, []api.Line{{Id: 5, Late: maxLate - months}}, pool.Agg{}, late(5, 100, maxLate-months))
		does(t, "one cent left", p, []api.Line{{Id: 5, Principal: 99, Late: months}}, pool.Agg{Principal: 99}, late(5, 1, months))
		does(t, "nothing left", p, []api.Line{{Id: 5, Prepaid: 1, Late: months}}, pool.Agg{Principal: 1}, loan(5, 0))
		does(t, "without a Balance", p, []api.Line{{Id: 5, Late: months}}, pool.Agg{}, loan(5, 0))
		does(t, "over", p, []api.Line{{Id: 5, Late: months, Default: true}}, pool.Agg{}, over(5, 0))
		q := alone(t, late(5, 100, months))
		does(t, "over with a Balance", q, []api.Line{{Id: 5, Late: months, Default: true}}, pool.Agg{Losses: 100}, over(5, 100))
		does(t, "cured", alone(t, late(5, 100, months)), []api.Line{{Id: 5}}, pool.Agg{}, loan(5, 100))
	}
}

// P9.2: interest hangs on no Balance.
func TestApplyInterest(t *testing.T) {
	for _, balance := range []int{0, 1, 100, maxCents} {
		for _, interest := range []int{0, 1, maxCents} {
			does(t, "interest", alone(t, loan(5, balance)), []api.Line{{Id: 5, Interest: interest}},
				pool.Agg{Interest: interest}, loan(5, balance))
		}
	}
}

// P9.2: what lines of each kind come to, and all of them together.
func TestAgg(t *testing.T) {
	kinds := []struct {
		line   api.Line
		agg    pool.Agg
		behind pool.Loan
	}{
		{api.Line{Id: 1, Principal: 1}, pool.Agg{Principal: 1}, loan(1, 999999)},
		{api.Line{Id: 2, Prepaid: 20}, pool.Agg{Principal: 20}, loan(2, 999980)},
		{api.Line{Id: 3, Principal: 300, Prepaid: 100}, pool.Agg{Principal: 400}, loan(3, 999600)},
		{api.Line{Id: 4, Interest: 5000, Late: 1}, pool.Agg{Interest: 5000}, late(4, 1000000, 1)},
		{api.Line{Id: 5, Default: true}, pool.Agg{Losses: 1000000}, over(5, 1000000)},
		{api.Line{Id: 6, Recov: 70000}, pool.Agg{Recov: 70000}, over(6, 930000)},
		{api.Line{Id: 7, Late: 11}, pool.Agg{}, late(7, 1000000, 11)},
		{
			api.Line{Id: 8, Principal: 2, Prepaid: 30, Interest: 400, Recov: 5000, Late: 6, Default: true},
			pool.Agg{Principal: 32, Interest: 400, Losses: 999968, Recov: 5000}, over(8, 994968),
		},
		{api.Line{Id: 9}, pool.Agg{}, loan(9, 1000000)},
	}
	begun := func() *pool.Pool {
		l := make([]api.Loan, len(kinds))
		for i := range l {
			l[i] = api.Loan{Id: i + 1, Balance: 1000000}
		}
		p := pool.New(l...)
		p.Apply([]api.Line{{Id: 6, Default: true}})
		return p
	}
	// Each set of kinds: its lines are done, the other loans stay.
	for set := range 1 << len(kinds) {
		p := begun()
		want, agg := p.Loans(), pool.Agg{}
		var lines []api.Line
		for i, k := range kinds {
			if set>>i&1 == 0 {
				continue
			}
			lines = append(lines, k.line)
			want[i] = k.behind
			agg.Principal += k.agg.Principal
			agg.Interest += k.agg.Interest
			agg.Losses += k.agg.Losses
			agg.Recov += k.agg.Recov
		}
		does(t, "kinds", p, lines, agg, want...)
	}
}

// P9.2: the most of all that there may be.
func TestAggOfTheMost(t *testing.T) {
	begun := make([]api.Loan, maxLoans)
	pays, defaults, recovers := make([]api.Line, maxLoans), make([]api.Line, maxLoans), make([]api.Line, maxLoans)
	var paid, lost, back []pool.Loan
	for i := range begun {
		id := i + 1
		begun[i] = api.Loan{Id: id, Balance: maxCents}
		pays[i] = api.Line{Id: id, Principal: maxCents, Interest: maxCents, Late: maxLate}
		defaults[i] = api.Line{Id: id, Interest: maxCents, Late: maxLate, Default: true}
		recovers[i] = api.Line{Id: id, Recov: maxCents}
		paid, lost, back = append(paid, loan(id, 0)), append(lost, over(id, maxCents)), append(back, over(id, 0))
	}
	does(t, "all paid", pool.New(begun...), pays, pool.Agg{Principal: 1 << 46, Interest: 1 << 46}, paid...)
	p := pool.New(begun...)
	does(t, "all lost", p, defaults, pool.Agg{Interest: 1 << 46, Losses: 1 << 46}, lost...)
	does(t, "all back", p, recovers, pool.Agg{Recov: 1 << 46}, back...)
}

// P9.2: one line that may not be, at each place of a tape: nothing of the
// others is done.
func TestOneLineThatMayNotBe(t *testing.T) {
	const count = 8
	begun := func() *pool.Pool {
		p := pool.New(many(count)...)
		p.Apply([]api.Line{{Id: 7, Default: true, Recov: 1}})
		return p
	}
	right := make([]api.Line, count)
	for i, l := range begun().Loans() {
		right[i] = api.Line{Id: l.Id, Principal: 2, Prepaid: 1, Interest: 1, Late: 3, Default: i%3 == 1, Recov: i % 3 % 2}
		if l.Over {
			right[i] = api.Line{Id: l.Id, Recov: 2}
		}
	}
	if _, e := begun().Apply(right); e != api.OK {
		t.Fatal("the right tape", e)
	}
	for at, l := range begun().Loans() {
		for _, wrong := range []api.Line{
			{Id: l.Id + 1}, {Id: l.Id, Principal: l.Balance + 1}, {Id: l.Id, Prepaid: l.Balance + 1},
			{Id: l.Id, Principal: l.Balance/2 + 1, Prepaid: l.Balance - l.Balance/2}, {Id: l.Id, Recov: l.Lost + 1},
			{Id: l.Id, Recov: l.Balance + l.Lost + 1, Default: true}, {Id: l.Id, Late: maxLate + 1},
			{Id: l.Id, Interest: -1},
		} {
			lines := slices.Clone(right)
			lines[at] = wrong
			refuses(t, "one among others", begun(), lines...)
			refuses(t, "with those ahead of it", begun(), lines[:at+1]...)
			refuses(t, "with those behind it", begun(), lines[at:]...)
		}
	}
}

// P9.2: loans without a line stay as they are, over many tapes.
func TestLoansWithoutALine(t *testing.T) {
	for at := range 4 {
		p := four(t)
		want := p.Loans()
		line, agg := api.Line{Id: want[at].Id, Principal: 1, Late: 1}, pool.Agg{Principal: 1}
		if want[at].Over {
			line, agg = api.Line{Id: want[at].Id, Recov: 1}, pool.Agg{Recov: 1}
		} else if want[at].Balance == 0 {
			line, agg = api.Line{Id: want[at].Id, Interest: 1, Late: 1}, pool.Agg{Interest: 1}
		}
		for range 30 {
			want[at].Balance -= agg.Principal
			want[at].Lost -= agg.Recov
			if want[at].Balance > 0 {
				want[at].Late = 1
			}
			does(t, "one line alone", p, []api.Line{line}, agg, want...)
		}
	}
}

// P9.3: each Id, and those that aren't there.
func TestFind(t *testing.T) {
	for count := range maxLoans + 1 {
		p := pool.New(many(count)...)
		for id := -2; id < 2*maxLoans+9; id++ {
			var want pool.Loan
			found := id >= 3 && id%2 == 1 && (id-3)/2 < count
			if found {
				want = loan(id, 10+(id-3)/2*((id-3)/2))
			}
			if got, ok := p.Find(id); got != want || ok != found {
				t.Errorf("%d loans: Find(%d) = %v, %v", count, id, got, ok)
			}
		}
		for _, id := range []int{math.MinInt, -3, 0, 1 << 32, 1<<32 + 3, math.MaxInt} {
			if got, ok := p.Find(id); got != (pool.Loan{}) || ok {
				t.Errorf("%d loans: Find(%d) = %v, %v", count, id, got, ok)
			}
		}
	}
	p := four(t)
	for _, want := range p.Loans() {
		if got, ok := p.Find(want.Id); got != want || !ok {
			t.Error("in each state", got, ok)
		}
	}
}

// mayBe is the second sentence of P9.2 said clause by clause.
func mayBe(l pool.Loan, line api.Line) bool {
	paid, lost := line.Principal+line.Prepaid, l.Lost
	if line.Default {
		lost = l.Lost + l.Balance - paid
	}
	switch {
	case l.Over && (line.Principal != 0 || line.Prepaid != 0 || line.Interest != 0 || line.Late != 0):
		return false
	case l.Over && line.Default:
		return false
	case !l.Over && !line.Default && line.Recov != 0:
		return false
	case paid > l.Balance:
		return false
	}
	return line.Recov <= lost
}

// model is what P9.2 says of a right tape of loans that there are, all lines
// being asked ahead of any being done.
func model(loans []pool.Loan, l []api.Line) ([]pool.Loan, pool.Agg, api.Errno) {
	at := make(map[int]int)
	for i, l := range loans {
		at[l.Id] = i
	}
	for _, line := range l {
		if !mayBe(loans[at[line.Id]], line) {
			return loans, pool.Agg{}, api.ErrTape
		}
	}
	behind, agg := slices.Clone(loans), pool.Agg{}
	for _, line := range l {
		o := &behind[at[line.Id]]
		o.Balance -= line.Principal + line.Prepaid
		if line.Default {
			agg.Losses += o.Balance
			o.Lost += o.Balance
			o.Balance = 0
			o.Over = true
		}
		o.Lost -= line.Recov
		o.Late = 0
		if !o.Over && o.Balance > 0 {
			o.Late = line.Late
		}
		agg.Principal += line.Principal + line.Prepaid
		agg.Interest += line.Interest
		agg.Recov += line.Recov
	}
	return behind, agg, api.OK
}

// follows applies l to p, checks it against the model and P9.4, and tells what
// came of it.
func follows(t *testing.T, p *pool.Pool, l []api.Line) api.Errno {
	t.Helper()
	was, balance, lost := p.Loans(), p.Balance(), p.Lost()
	want, wantAgg, wantErr := model(was, l)
	agg, e := p.Apply(l)
	if agg != wantAgg || e != wantErr || !slices.Equal(p.Loans(), want) {
		t.Fatalf("%v, of %v: %v, %d, %v; want %v, %d, %v", l, was, agg, e, p.Loans(), wantAgg, wantErr, want)
	}
	if balance-p.Balance() != agg.Principal+agg.Losses || p.Lost()-lost != agg.Losses-agg.Recov {
		t.Fatalf("%v, of %v: Balance %d, then %d; Lost %d, then %d; %v", l, was, balance, p.Balance(), lost, p.Lost(), agg)
	}
	return e
}

// P9.2 and P9.4: every small line of a loan in every small state, alone and
// between two others.
func TestEverySmallLine(t *testing.T) {
	states := []pool.Loan{
		loan(5, 0), loan(5, 1), loan(5, 3), late(5, 1, 2), late(5, 3, 1), over(5, 0), over(5, 1), over(5, 3),
	}
	for _, begun := range states {
		single := alone(t, begun)
		among := pool.New(api.Loan{Id: 2, Balance: 10}, api.Loan{Id: 5, Balance: begun.Balance + begun.Lost}, api.Loan{Id: 7, Balance: 20})
		among.Apply([]api.Line{{Id: 5, Late: begun.Late, Default: begun.Over}})
		for _, line := range smallLines(5) {
			e := follows(t, single.Copy(), []api.Line{line})
			if got := follows(t, among.Copy(), []api.Line{{Id: 2, Principal: 4, Late: 1}, line, {Id: 7, Default: true, Recov: 2}}); got != e {
				t.Fatalf("%v, of %v: %d alone, %d among others", line, begun, e, got)
			}
		}
		shows(t, "behind its copies", single, begun)
	}
}

// smallLines are all lines of that Id with small numbers.
func smallLines(id int) []api.Line {
	var l []api.Line
	for n := range 5 * 5 * 5 * 2 * 3 * 2 {
		next := func(of int) int {
			digit := n % of
			n /= of
			return digit
		}
		l = append(l, api.Line{
			Id: id, Principal: next(5), Prepaid: next(5), Recov: next(5),
			Interest: next(2), Late: next(3), Default: next(2) == 1,
		})
	}
	return l
}

// P9.3 and P9.4: Balance and Lost over many tapes, those among them that may
// not be.
func TestManyTapes(t *testing.T) {
	var done, refused int
	for turn := range 40 {
		seed := uint64(turn + 1)
		below := func(n int) int {
			seed = seed*6364136223846793005 + 1442695040888963407
			return int((seed >> 33) % uint64(n))
		}
		begun := many(1 + below(maxLoans))
		balance, agg := 0, pool.Agg{}
		for _, l := range begun {
			balance += l.Balance
		}
		p := pool.New(begun...)
		for range 60 {
			l := someLines(p.Loans(), below)
			before := p.Copy()
			if follows(t, p, l) != api.OK {
				refused++
				continue
			}
			done++
			came, _ := before.Apply(l)
			agg.Principal += came.Principal
			agg.Losses += came.Losses
			agg.Recov += came.Recov
		}
		if p.Balance() != balance-agg.Principal-agg.Losses || p.Lost() != agg.Losses-agg.Recov {
			t.Errorf("turn %d: Balance %d of %d, Lost %d, by %v", turn, p.Balance(), balance, p.Lost(), agg)
		}
	}
	if done < 300 || refused < 300 {
		t.Error("too few of one sort", done, refused)
	}
}

// someLines is a right tape of some of these loans, of which one line in a
// hundred or so may not be.
func someLines(loans []pool.Loan, below func(int) int) []api.Line {
	var l []api.Line
	for _, o := range loans {
		if below(2) == 0 {
			continue
		}
		line := api.Line{Id: o.Id}
		switch {
		case o.Over:
			line.Recov = below(o.Lost + 1)
		case below(20) == 0:
			line.Principal, line.Late, line.Default = below(o.Balance+1), below(3), true
			line.Recov = below(o.Balance - line.Principal + 1)
		default:
			line.Principal, line.Interest, line.Late = below(o.Balance/9+1), below(5), below(maxLate+1)
			line.Prepaid = below(o.Balance/9 - line.Principal + 1)
		}
		if below(60) == 0 {
			line.Recov++
		}
		l = append(l, line)
	}
	return l
}

// P9.2: tapes that aren't right, though each line might be done by itself.
func TestWrongTapes(t *testing.T) {
	for _, c := range []struct {
		name string
		l    []api.Line
	}{
		{"falling Ids", []api.Line{{Id: 4}, {Id: 2}}},
		{"falling Ids at the end", []api.Line{{Id: 2}, {Id: 6}, {Id: 4}}},
		{"an Id twice", []api.Line{{Id: 2, Principal: 1}, {Id: 2, Principal: 1}}},
		{"an Id twice, though nothing is in it", []api.Line{{Id: 2}, {Id: 2}}},
		{"an Id twice, to default and to recover", []api.Line{{Id: 2, Default: true}, {Id: 2, Recov: 1}}},
		{"an Id again", []api.Line{{Id: 2}, {Id: 4}, {Id: 2}}},
		{"the last Id twice", []api.Line{{Id: 2}, {Id: 4}, {Id: 8}, {Id: 8}}},
		{"Id 0", []api.Line{{Id: 0}}},
		{"Id below 0", []api.Line{{Id: -2}, {Id: 2}}},
		{"the least Id", []api.Line{{Id: math.MinInt}, {Id: 2}}},
		{"Principal that Prepaid evens out", []api.Line{{Id: 2, Principal: 101, Prepaid: -1}}},
		{"Prepaid that Principal evens out", []api.Line{{Id: 2, Principal: -1, Prepaid: 1}}},
		{"payments that wrap round", []api.Line{{Id: 2, Principal: math.MaxInt, Prepaid: math.MaxInt}}},
		{"payments that wrap round to 0", []api.Line{{Id: 2, Principal: math.MinInt, Prepaid: math.MinInt}}},
		{"too late, without a Balance", []api.Line{{Id: 8, Late: maxLate + 1}}},
		{"too late, to default", []api.Line{{Id: 2, Late: maxLate + 1, Default: true}}},
	} {
		refuses(t, c.name, four(t), c.l...)
	}
	numbers := []func(*api.Line) *int{
		func(l *api.Line) *int { return &l.Principal }, func(l *api.Line) *int { return &l.Prepaid },
		func(l *api.Line) *int { return &l.Interest }, func(l *api.Line) *int { return &l.Recov },
		func(l *api.Line) *int { return &l.Late },
	}
	wrong := []int{math.MinInt, math.MinInt + 1, -maxCents, -2, -1, maxCents + 1, 1 << 60, math.MaxInt - 1, math.MaxInt}
	for i, number := range numbers {
		for _, n := range wrong {
			for at := range 4 {
				for _, defaults := range []bool{false, true} {
					l := []api.Line{{Id: 2}, {Id: 4}, {Id: 6}, {Id: 8}}
					l[at].Default = defaults && l[at].Id != 6
					*number(&l[at]) = n
					refuses(t, "number "+string(rune('0'+i)), four(t), l...)
				}
			}
		}
	}
}

// P9.2: more lines than there may be, and just as many.
func TestAsManyLinesAsThereMayBe(t *testing.T) {
	begun := many(maxLoans)
	lines := make([]api.Line, 0, 2*maxLoans)
	agg := pool.Agg{}
	var want []pool.Loan
	for _, l := range begun {
		lines = append(lines, api.Line{Id: l.Id, Principal: 1, Interest: 2, Late: 3})
		agg.Principal++
		agg.Interest += 2
		want = append(want, late(l.Id, l.Balance-1, 3))
	}
	does(t, "MaxLoans", pool.New(begun...), lines, agg, want...)
	last := begun[maxLoans-1].Id
	for _, more := range [][]api.Line{
		{{Id: last + 1}}, {{Id: last}}, {{Id: last + 2}, {Id: last + 4}}, slices.Clone(lines),
	} {
		refuses(t, "more than MaxLoans", pool.New(begun...), append(slices.Clone(lines), more...)...)
	}
	refuses(t, "more lines than loans", pool.New(begun[:3]...), lines...)
	refuses(t, "very many", pool.New(begun...), make([]api.Line, 100000)...)
}

// R2 and R5: a tape stays as it was, its spare room too, and is neither read
// behind its length nor kept.
func TestWhatApplyWasHanded(t *testing.T) {
	for _, c := range []struct {
		l []api.Line
		e api.Errno
	}{
		{nil, api.OK},
		{[]api.Line{{Id: 2, Principal: 3, Prepaid: 4, Interest: 5, Late: 6}}, api.OK},
		{[]api.Line{{Id: 2, Default: true, Recov: 7}, {Id: 6, Recov: 8}}, api.OK},
		{[]api.Line{{Id: 2, Principal: 3}, {Id: 6, Recov: 31}}, api.ErrTape},
		{[]api.Line{{Id: 2, Principal: 3}, {Id: 2}}, api.ErrTape},
	} {
		room := append(slices.Clone(c.l), api.Line{Id: 8, Interest: 92, Late: 93}, api.Line{Id: -1})
		before := slices.Clone(room)
		p, q := four(t), four(t)
		agg, e := p.Apply(room[:len(c.l)])
		wantAgg, _ := q.Apply(c.l)
		if e != c.e || agg != wantAgg {
			t.Errorf("%v: %v, %d", c.l, agg, e)
		}
		if !slices.Equal(room, before) {
			t.Errorf("%v: turned to %v", before, room)
		}
		clear(room)
		shows(t, "once it was cleared", p, q.Loans()...)
	}
}

// wrongLoans are lists of loans of which nothing is promised but that all ends.
func wrongLoans() [][]api.Loan {
	edges := []int{math.MinInt, math.MinInt + 1, -maxCents, -1, 0, 1, 2, maxCents, maxCents + 1, 1 << 60, math.MaxInt - 1, math.MaxInt}
	var lists [][]api.Loan
	var all []api.Loan
	for _, id := range edges {
		for _, balance := range edges {
			l := api.Loan{Id: id, Balance: balance}
			lists = append(lists, []api.Loan{l}, []api.Loan{l, l}, []api.Loan{{Id: 2, Balance: 5}, l, {Id: 1, Balance: 9}})
			all = append(all, l)
		}
	}
	return append(lists, all, make([]api.Loan, 100), many(maxLoans+1), many(1000), many(100000))
}

// R1: of any loans every call ends, and what is handed in stays as it was.
func TestAnyLoans(t *testing.T) {
	for _, begun := range wrongLoans() {
		before := slices.Clone(begun)
		p := pool.New(begun...)
		for _, l := range [][]api.Line{
			nil, {{Id: 1}}, {{Id: 1, Principal: maxCents, Prepaid: maxCents}}, {{Id: 2, Principal: 5, Interest: 1, Late: 3}},
			{{Id: 1, Default: true}, {Id: 2, Default: true, Recov: 1}, {Id: math.MaxInt, Default: true, Recov: maxCents}},
			{{Id: 1, Default: true}}, {{Id: 2, Default: true}}, {{Id: math.MaxInt, Default: true}}, {{Id: 1, Recov: maxCents}},
			{{Id: 0}}, make([]api.Line, 1000),
		} {
			q := p.Copy()
			q.Apply(l)
			p.Apply(l)
			q.Balance()
			q.Lost()
			q.Loans()
			q.Find(1)
			q.Find(math.MinInt)
			q.Find(math.MaxInt)
		}
		if !slices.Equal(begun, before) {
			t.Errorf("%v: turned to %v", before[:1], begun[:1])
		}
	}
}
