package settle_test

import (
	"math"
	"math/big"
	"slices"
	"testing"

	"pursehouse/api"
	"pursehouse/settle"
)

// draw gives numbers for long scripts; the same each time.
type draw uint64

func (d *draw) below(n int) int {
	*d = *d*6364136223846793005 + 1442695040888963407
	return int(uint64(*d) >> 33 % uint64(n))
}

func (d *draw) one(l ...int) int { return l[d.below(len(l))] }

func (d *draw) odds(n int) bool { return d.below(n) == 0 }

// amount is any amount, most of them small.
func (d *draw) amount() int {
	switch d.below(4) {
	case 0:
		return d.below(1<<30) * 930 % (api.MaxAmount + 1)
	case 1:
		return api.MaxAmount - d.below(10)
	}
	return d.below(1000)
}

func owe(from int, to int, amount int) api.Owe { return api.Owe{From: from, To: to, Amount: amount} }

func at(bank int, has int) api.Position { return api.Position{Bank: bank, Has: has} }

const most = 10_000_000_000_000_000 // of what a bank has

// N1

func TestNet(t *testing.T) {
	owes := func(l ...api.Owe) []api.Owe { return l }
	has := func(l ...api.Position) []api.Position { return l }
	same := func(n int, o api.Owe) []api.Owe { return slices.Repeat(owes(o), n) }
	for i, c := range []struct {
		l    []api.Owe
		want []api.Position
		e    api.Errno
	}{
		{nil, nil, api.OK},
		{owes(owe(1, 2, 9), owe(2, 3, 4), owe(3, 1, 1), owe(5, 5, 7)), has(at(1, -8), at(2, 5), at(3, 3), at(5, 0)), api.OK},
		{owes(owe(99, 1, 5)), has(at(1, 5), at(99, -5)), api.OK},
		{owes(owe(10, 9, 0)), has(at(9, 0), at(10, 0)), api.OK},
		{owes(owe(1, 2, 5), owe(2, 1, 5)), has(at(1, 0), at(2, 0)), api.OK},
		{owes(owe(1, 2, api.MaxAmount)), has(at(1, -api.MaxAmount), at(2, api.MaxAmount)), api.OK},
		{same(10000, owe(98, 99, api.MaxAmount)), has(at(98, -10000*api.MaxAmount), at(99, 10000*api.MaxAmount)), api.OK},
		{same(10000, owe(7, 7, api.MaxAmount)), has(at(7, 0)), api.OK},
		{owes(owe(0, 1, 5)), nil, api.ErrRange},
		{owes(owe(1, 0, 5)), nil, api.ErrRange},
		{owes(owe(100, 1, 5)), nil, api.ErrRange},
		{owes(owe(1, 100, 5)), nil, api.ErrRange},
		{owes(owe(1, math.MinInt, 5)), nil, api.ErrRange},
		{owes(owe(math.MaxInt, 1, 5)), nil, api.ErrRange},
		{owes(owe(1, 2, -1)), nil, api.ErrRange},
		{owes(owe(1, 2, api.MaxAmount+1)), nil, api.ErrRange},
		{append(same(9999, owe(1, 2, 3)), owe(1, 0, 3)), nil, api.ErrRange},
		{same(10001, owe(1, 2, 3)), nil, api.ErrLong},
		{same(10001, owe(0, 0, -1)), nil, api.ErrLong}, // what is named first counts
	} {
		before := slices.Clone(c.l)
		l, e := settle.Net(c.l)
		if e != c.e || !slices.Equal(l, c.want) {
			t.Errorf("list %d: %v %d, it must be %v %d", i, l, e, c.want, c.e)
		}
		if !slices.Equal(before, c.l) {
			t.Errorf("list %d was changed", i)
		}
	}
}

func drawOwes(d *draw) []api.Owe {
	var l []api.Owe
	banks := 1 + d.below(99)
	for range d.one(0, 1, d.below(30), 999, 1000, 1001, 9000+d.below(1001)) {
		l = append(l, owe(1+d.below(banks), 1+d.below(banks), d.amount()))
	}
	return l
}

// added is a list of debts added up one by one.
func added(owes []api.Owe) []api.Position {
	var has, times [100]int
	for _, o := range owes {
		has[o.From] -= o.Amount
		has[o.To] += o.Amount
		times[o.From]++
		times[o.To]++
	}
	var l []api.Position
	for bank := range has {
		if times[bank] > 0 {
			l = append(l, at(bank, has[bank]))
		}
	}
	return l
}

func TestNetAsAddedOneByOne(t *testing.T) {
	for seed := range 200 {
		d := draw(seed)
		owes := drawOwes(&d)
		want := added(owes)
		for range 3 {
			if l, e := settle.Net(owes); e != api.OK || !slices.Equal(l, want) {
				t.Fatalf("%d debts: %v %d, it must be %v", len(owes), l, e, want)
			}
		}
	}
}

// P3: calls at the same time do not hang on one another.
func TestNetsAtTheSameTime(t *testing.T) {
	done := make(chan bool)
	for seed := range 8 {
		go func() {
			d := draw(seed)
			well := true
			for range 20 {
				owes := drawOwes(&d)
				l, _ := settle.Net(owes)
				well = well && slices.Equal(l, added(owes))
			}
			done <- well
		}()
	}
	for range 8 {
		if !<-done {
			t.Error("one hung on another")
		}
	}
}

// N2

func TestPlan(t *testing.T) {
	has := func(l ...api.Position) []api.Position { return l }
	owes := func(l ...api.Owe) []api.Owe { return l }
	banks := func(n int) (l []api.Position) {
		for i := range n {
			l = append(l, at(1+i, 0))
		}
		return l
	}
	for i, c := range []struct {
		l    []api.Position
		want []api.Owe
		e    api.Errno
	}{
		{nil, nil, api.OK},
		{has(at(1, 0)), nil, api.OK},
		{banks(99), nil, api.OK},
		{has(at(1, -5), at(2, -2), at(3, 4), at(4, 3)), owes(owe(1, 3, 4), owe(2, 4, 2), owe(1, 4, 1)), api.OK},
		{has(at(1, 5), at(99, -5)), owes(owe(99, 1, 5)), api.OK},
		{has(at(1, most), at(2, -most)), owes(owe(2, 1, most)), api.OK},
		{has(at(3, -5), at(4, 0), at(5, -5), at(6, 5), at(7, 5)), owes(owe(3, 6, 5), owe(5, 7, 5)), api.OK},
		{has(at(1, 1), at(2, 1), at(3, 1), at(4, -3)), owes(owe(4, 1, 1), owe(4, 2, 1), owe(4, 3, 1)), api.OK},
		{has(at(1, 9), at(2, -4), at(3, -5)), owes(owe(3, 1, 5), owe(2, 1, 4)), api.OK},
		{has(at(0, 0)), nil, api.ErrRange},
		{has(at(100, 0)), nil, api.ErrRange},
		{has(at(-1, 0)), nil, api.ErrRange},
		{has(at(1, most+1), at(2, -most-1)), nil, api.ErrRange},
		{has(at(1, most), at(2, -most-1), at(3, 1)), nil, api.ErrRange},
		{has(at(1, math.MinInt)), nil, api.ErrRange},
		{has(at(1, math.MaxInt), at(2, -math.MaxInt)), nil, api.ErrRange},
		{has(at(2, 0), at(1, 0)), nil, api.ErrForm},
		{has(at(1, 5), at(1, -5)), nil, api.ErrForm},
		{has(at(1, 1)), nil, api.ErrState},
		{has(at(1, 5), at(2, -4)), nil, api.ErrState},
		{has(at(1, -most), at(2, -most)), nil, api.ErrState},
		// What is named first counts.
		{make([]api.Position, 100), nil, api.ErrLong},
		{banks(100), nil, api.ErrLong},
		{has(at(2, 0), at(1, 0), at(100, 0)), nil, api.ErrRange},
		{has(at(2, 0), at(1, most+1)), nil, api.ErrRange},
		{has(at(2, 1), at(1, 0)), nil, api.ErrForm},
	} {
		before := slices.Clone(c.l)
		l, e := settle.Plan(c.l)
		if e != c.e || !slices.Equal(l, c.want) {
			t.Errorf("positions %d: %v %d, it must be %v %d", i, l, e, c.want, c.e)
		}
		if !slices.Equal(before, c.l) {
			t.Errorf("positions %d were changed", i)
		}
	}
}

func drawPositions(d *draw) []api.Position {
	var l []api.Position
	sum := 0
	size := d.one(3, 10, 1000, 1<<30)
	for bank := 1; bank < 99; bank++ {
		if d.odds(3) {
			n := d.below(2*size+1) - size
			sum += n
			l = append(l, at(bank, n))
		}
	}
	return append(l, at(99, -sum))
}

// planned is a second telling of N2: the banks stand in a row from the one that has least to the one that has most.
func planned(positions []api.Position) []api.Owe {
	row := slices.Clone(positions)
	var l []api.Owe
	for {
		slices.SortStableFunc(row, func(a api.Position, b api.Position) int { return a.Has - b.Has })
		first := row[0]
		last := slices.IndexFunc(row, func(p api.Position) bool { return p.Has == row[len(row)-1].Has })
		if first.Has == 0 {
			return l
		}
		o := owe(first.Bank, row[last].Bank, min(-first.Has, row[last].Has))
		l = append(l, o)
		row[0].Has += o.Amount
		row[last].Has -= o.Amount
		slices.SortFunc(row, func(a api.Position, b api.Position) int { return a.Bank - b.Bank })
	}
}

// N2, N5

func TestPlanLeavesNobodyAnything(t *testing.T) {
	for seed := range 1000 {
		d := draw(seed)
		positions := drawPositions(&d)
		l, e := settle.Plan(positions)
		if e != api.OK || !slices.Equal(l, planned(positions)) {
			t.Fatalf("%v: %v %d, it must be %v", positions, l, e, planned(positions))
		}
		left, having := map[int]int{}, 0
		for _, p := range positions {
			left[p.Bank] = p.Has
			if p.Has != 0 {
				having++
			}
		}
		for _, o := range l {
			if o.Amount <= 0 {
				t.Fatalf("%v: %v", positions, l)
			}
			left[o.From] += o.Amount
			left[o.To] -= o.Amount
		}
		for bank, n := range left {
			if n != 0 {
				t.Fatalf("%v: %d has %d left", positions, bank, n)
			}
		}
		if len(l) >= having && having > 0 {
			t.Fatalf("%v: %d payments of %d banks", positions, len(l), having)
		}
	}
}

func TestPlanOfMuch(t *testing.T) {
	var positions []api.Position
	for bank := 1; bank <= 98; bank++ {
		positions = append(positions, at(bank, most*(1-2*(bank%2))))
	}
	l, e := settle.Plan(positions)
	if e != api.OK || len(l) != 49 {
		t.Fatalf("%v %d", l, e)
	}
	for i, o := range l {
		if o != owe(2*i+1, 2*i+2, most) {
			t.Fatalf("%v", l)
		}
	}
}

// N3

func TestShare(t *testing.T) {
	parts := func(l ...int) []int { return l }
	for i, c := range []struct {
		amount int
		parts  []int
		want   []int
		e      api.Errno
	}{
		{100, parts(1, 1, 1), parts(34, 33, 33), api.OK},
		{101, parts(1, 1, 1), parts(34, 34, 33), api.OK},
		{100, parts(1, 2), parts(33, 67), api.OK},
		{100, parts(0, 3, 1), parts(0, 75, 25), api.OK},
		{0, parts(1, 2), parts(0, 0), api.OK},
		{1, parts(0, 1), parts(0, 1), api.OK},
		{1, parts(1, 1), parts(1, 0), api.OK},
		{7, parts(5), parts(7), api.OK},
		{2, parts(1, 0, 1, 0, 1), parts(1, 0, 1, 0, 0), api.OK},
		{api.MaxAmount, parts(1000000), parts(api.MaxAmount), api.OK},
		{api.MaxAmount, parts(1000000, 1000000), parts(500000000000, 499999999999), api.OK},
		{999, slices.Repeat(parts(1000000), 1000), append(slices.Repeat(parts(1), 999), 0), api.OK},
		{-1, parts(1), nil, api.ErrRange},
		{api.MaxAmount + 1, parts(1), nil, api.ErrRange},
		{math.MinInt, parts(1), nil, api.ErrRange},
		{1, parts(1, -1), nil, api.ErrRange},
		{1, parts(1, 1000001), nil, api.ErrRange},
		{1, parts(math.MaxInt, math.MinInt), nil, api.ErrRange},
		{1, slices.Repeat(parts(1), 1001), nil, api.ErrLong},
		{1, nil, nil, api.ErrForm},
		{1, parts(0), nil, api.ErrForm},
		{0, parts(0, 0), nil, api.ErrForm},
		{1, make([]int, 1000), nil, api.ErrForm},
		// What is named first counts.
		{-1, nil, nil, api.ErrRange},
		{-1, make([]int, 1001), nil, api.ErrRange},
		{1, append(make([]int, 1001), -1), nil, api.ErrRange},
		{1, make([]int, 1001), nil, api.ErrLong},
	} {
		before := slices.Clone(c.parts)
		l, e := settle.Share(c.amount, c.parts)
		if e != c.e || !slices.Equal(l, c.want) {
			t.Errorf("%d: of %d: %v %d, it must be %v %d", i, c.amount, l, e, c.want, c.e)
		}
		if !slices.Equal(before, c.parts) {
			t.Errorf("%d: the parts were changed", i)
		}
	}
}

func drawParts(d *draw) []int {
	size := d.one(2, 5, 100, 1000001)
	l := []int{1 + d.below(size-1)}
	for range d.one(0, 1, 2, 10, 300, 999) {
		l = append(l, d.below(size))
	}
	return l
}

// shared is a second telling of N3, by numbers of any size: one by one, what is left goes to the greatest rest.
func shared(amount int, parts []int) []int {
	all := new(big.Int)
	for _, p := range parts {
		all.Add(all, big.NewInt(int64(p)))
	}
	var shares []int
	var rests []*big.Int
	left := amount
	for _, p := range parts {
		times := new(big.Int).Mul(big.NewInt(int64(amount)), big.NewInt(int64(p)))
		share, rest := new(big.Int).QuoRem(times, all, new(big.Int))
		shares, rests = append(shares, int(share.Int64())), append(rests, rest)
		left -= int(share.Int64())
	}
	for range left {
		greatest := 0
		for i := range rests {
			if rests[i].Cmp(rests[greatest]) > 0 {
				greatest = i
			}
		}
		shares[greatest]++
		rests[greatest] = big.NewInt(-1)
	}
	return shares
}

// N3, N5

func TestShareToTheLastCent(t *testing.T) {
	for seed := range 400 {
		d := draw(seed)
		amount, parts := d.amount(), drawParts(&d)
		l, e := settle.Share(amount, parts)
		if e != api.OK || !slices.Equal(l, shared(amount, parts)) {
			t.Fatalf("of %d: %v: %v %d, it must be %v", amount, parts, l, e, shared(amount, parts))
		}
		all, sum := 0, 0
		for i := range parts {
			all += parts[i]
			sum += l[i]
		}
		if sum != amount {
			t.Fatalf("of %d: %v: %d", amount, parts, sum)
		}
		for i := range parts {
			exact := big.NewRat(int64(amount), int64(all))
			exact.Mul(exact, big.NewRat(int64(parts[i]), 1))
			off := exact.Sub(exact, big.NewRat(int64(l[i]), 1))
			if off.Abs(off).Cmp(big.NewRat(1, 1)) >= 0 {
				t.Fatalf("of %d: %v: %d", amount, parts, l[i])
			}
			for k := range parts {
				if parts[i] > parts[k] && l[i] < l[k] {
					t.Fatalf("of %d: %d parts get %d, %d get %d", amount, parts[i], l[i], parts[k], l[k])
				}
			}
		}
	}
}

// N4

func TestConvert(t *testing.T) {
	const max, rate = api.MaxAmount, 1000000000
	for _, c := range []struct {
		amount, num, den, want int
		e                      api.Errno
	}{
		{5, 1, 2, 2, api.OK},
		{7, 1, 2, 4, api.OK},
		{5, 3, 2, 8, api.OK},
		{7, 3, 2, 10, api.OK},
		{1, 1, 2, 0, api.OK},
		{3, 1, 2, 2, api.OK},
		{1, 1, 3, 0, api.OK},
		{2, 1, 3, 1, api.OK},
		{4, 3, 8, 2, api.OK},
		{0, rate, 1, 0, api.OK},
		{max, 1, 1, max, api.OK},
		{max, rate, rate, max, api.OK},
		{max, 1, rate, 1000, api.OK},
		{max, 1, 2, 500000000000, api.OK},
		{999, rate, 1, 999000000000, api.OK},
		{1000, rate, 1, 0, api.ErrLong},
		{max, rate, 1, 0, api.ErrLong},
		{max, rate, 54, 0, api.ErrLong},
		{max, rate, 55, 0, api.ErrLong},
		{max, rate, rate - 1, 0, api.ErrLong},
		{max, rate - 1, rate, 999999998999, api.OK},
		{max, 2, 1, 0, api.ErrLong},
		{max / 2, 2, 1, max - 1, api.OK},
		{500000000000, 2, 1, 0, api.ErrLong},
		{666666666666, 3, 2, max, api.OK},
		{666666666667, 3, 2, 0, api.ErrLong},
		// Half-way between the greatest amount and the next number, which is even; half-way below it; and nearer to one than to the other.
		{521784503, 3833, 2, 0, api.ErrLong},
		{86956521739, 23, 2, max - 1, api.OK},
		{235294117647, 17, 4, 0, api.ErrLong},
		{1031725561, 3877, 4, max, api.OK},
		{-1, 1, 1, 0, api.ErrRange},
		{max + 1, 1, 2, 0, api.ErrRange},
		{math.MinInt, 1, 1, 0, api.ErrRange},
		{1, 0, 1, 0, api.ErrRange},
		{1, 1, 0, 0, api.ErrRange},
		{1, -1, 1, 0, api.ErrRange},
		{1, 1, -1, 0, api.ErrRange},
		{1, rate + 1, 1, 0, api.ErrRange},
		{1, 1, rate + 1, 0, api.ErrRange},
		{max, math.MaxInt, 1, 0, api.ErrRange},
		{0, 0, 0, 0, api.ErrRange},
	} {
		n, e := settle.Convert(c.amount, api.Rate{Num: c.num, Den: c.den})
		if n != c.want || e != c.e {
			t.Errorf("%d at %d to %d: %d %d, it must be %d %d", c.amount, c.num, c.den, n, e, c.want, c.e)
		}
	}
}

// converted is a second telling of N4, by numbers of any size: the one of all near it, by its distance.
func converted(amount int, rate api.Rate) (int, api.Errno) {
	num, den := big.NewInt(int64(rate.Num)), big.NewInt(int64(rate.Den))
	times := num.Mul(num, big.NewInt(int64(amount)))
	low := new(big.Int).Quo(times, den)
	high := new(big.Int).Add(low, big.NewInt(1))
	below := new(big.Int).Sub(times, new(big.Int).Mul(low, den))
	above := new(big.Int).Sub(new(big.Int).Mul(high, den), times)
	n := low
	if c := below.Cmp(above); c > 0 || c == 0 && low.Bit(0) == 1 {
		n = high
	}
	if n.Cmp(big.NewInt(api.MaxAmount)) > 0 {
		return 0, api.ErrLong
	}
	return int(n.Int64()), api.OK
}

func TestConvertToTheNearest(t *testing.T) {
	d := draw(7)
	seen := map[api.Errno]int{}
	for range 100000 {
		size := d.one(10, 1000, 1000000000)
		amount, rate := d.amount(), api.Rate{Num: 1 + d.below(size), Den: 1 + d.below(size)}
		if d.odds(4) {
			rate.Den = max(1, rate.Num-d.below(3)+1)
		}
		n, e := settle.Convert(amount, rate)
		want, f := converted(amount, rate)
		if n != want || e != f {
			t.Fatalf("%d at %+v: %d %d, it must be %d %d", amount, rate, n, e, want, f)
		}
		seen[e]++
	}
	if seen[api.OK] < 1000 || seen[api.ErrLong] < 1000 {
		t.Errorf("%v", seen)
	}
}
