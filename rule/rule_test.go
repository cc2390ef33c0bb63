package rule_test

import (
	"math"
	"slices"
	"strconv"
	"testing"

	"pursehouse/api"
	"pursehouse/rule"
)

// draw gives numbers for long scripts; the same each time.
type draw uint64

func (d *draw) below(n int) int {
	*d = *d*6364136223846793005 + 1442695040888963407
	return int(uint64(*d) >> 33 % uint64(n))
}

// some are some of the numbers below n.
func (d *draw) some(n int) []int {
	var out []int
	for i := range n {
		if d.below(2) == 0 {
			out = append(out, i)
		}
	}
	return out
}

// money are the edges of an amount, and of what is none.
func money() map[int]api.Errno {
	return map[int]api.Errno{math.MinInt: api.ErrRange, -1: api.ErrRange, 0: api.OK, 1: api.OK, 999999999999: api.OK, 1000000000000: api.ErrRange, math.MaxInt: api.ErrRange}
}

func listed(l ...api.Way) api.Ways { return api.Ways{X: 50, Y: 100, List: l} }

// F1

func TestCheckWays(t *testing.T) {
	for n, want := range money() {
		for _, w := range []api.Ways{{X: n}, {Y: n}} {
			if e := rule.CheckWays(w); e != want {
				t.Errorf("CheckWays(%+v): %d, and must be %d", w, e, want)
			}
		}
	}
	for n, want := range map[int]api.Errno{math.MinInt: api.ErrRange, -1: api.ErrRange, 0: api.OK, 5: api.OK, 6: api.OK, 7: api.OK, 62: api.OK, 63: api.OK, 64: api.ErrRange, math.MaxInt: api.ErrRange} {
		if e := rule.CheckWays(listed(api.Way{}, api.Way{Code: n})); e != want {
			t.Errorf("CheckWays of the code %d: %d, and must be %d", n, e, want)
		}
	}
	for n, want := range map[int]api.Errno{math.MinInt: api.ErrRange, -1: api.ErrRange, 0: api.OK, 1: api.OK, 6: api.OK, 7: api.OK, 8: api.ErrRange, math.MaxInt: api.ErrRange} {
		if e := rule.CheckWays(listed(api.Way{}, api.Way{When: n}, api.Way{})); e != want {
			t.Errorf("CheckWays of the when %d: %d, and must be %d", n, e, want)
		}
	}
	for _, c := range []struct {
		w    api.Ways
		want api.Errno
	}{
		{api.Ways{}, api.OK},
		{api.Ways{X: 100, Y: 50}, api.OK},
		{listed(make([]api.Way, 20)...), api.OK},
		{listed(make([]api.Way, 21)...), api.ErrLong},
		{listed(append(make([]api.Way, 20), api.Way{Code: 64})...), api.ErrLong},
		{api.Ways{X: -1, List: make([]api.Way, 21)}, api.ErrLong},
		{api.Ways{Y: -1, List: make([]api.Way, 20)}, api.ErrRange},
	} {
		if e := rule.CheckWays(c.w); e != c.want {
			t.Errorf("CheckWays(%+v): %d, and must be %d", c.w, e, c.want)
		}
	}
}

// F2

func TestWalkOfWhatIsWrong(t *testing.T) {
	for n, want := range money() {
		if x, e := rule.Walk(listed(), api.Scene{Amount: n}); e != want || e != api.OK && x != (api.Walked{}) {
			t.Errorf("Walk of the amount %d: %+v %d, and must have %d", n, x, e, want)
		}
	}
	for _, c := range []struct {
		w    api.Ways
		s    api.Scene
		want api.Errno
	}{
		{api.Ways{X: -1}, api.Scene{}, api.ErrRange},
		{listed(api.Way{Code: 64}), api.Scene{}, api.ErrRange},
		{listed(api.Way{Code: api.WayNone}, api.Way{When: 8}), api.Scene{}, api.ErrRange},
		{listed(make([]api.Way, 21)...), api.Scene{}, api.ErrLong},
		{listed(make([]api.Way, 21)...), api.Scene{Amount: -1}, api.ErrLong},
	} {
		if x, e := rule.Walk(c.w, c.s); x != (api.Walked{}) || e != c.want {
			t.Errorf("Walk(%+v, %+v): %+v %d, and must have %d", c.w, c.s, x, e, c.want)
		}
	}
}

// TestWhenAWayApplies has one way, that goes well where it applies.
func TestWhenAWayApplies(t *testing.T) {
	able := []int{api.WayNone}
	for _, c := range []struct {
		when int
		s    api.Scene
		want bool
	}{
		{api.WhenAlways, api.Scene{}, true},
		{api.WhenAlways, api.Scene{Amount: 1000, Cash: true}, true},
		{api.WhenCash, api.Scene{Cash: true}, true},
		{api.WhenCash, api.Scene{}, false},
		{api.WhenNotCash, api.Scene{Cash: true}, false},
		{api.WhenNotCash, api.Scene{}, true},
		{api.WhenAble, api.Scene{Able: able}, true},
		{api.WhenAble, api.Scene{Able: []int{4, 3, 5}}, true},
		{api.WhenAble, api.Scene{Able: []int{1, 4}, Well: able}, false},
		{api.WhenAble, api.Scene{}, false},
		{api.WhenBelowX, api.Scene{Amount: 49}, true},
		{api.WhenBelowX, api.Scene{Amount: 50}, false},
		{api.WhenBelowX, api.Scene{Amount: 51}, false},
		{api.WhenAboveX, api.Scene{Amount: 49}, false},
		{api.WhenAboveX, api.Scene{Amount: 50}, false},
		{api.WhenAboveX, api.Scene{Amount: 51}, true},
		{api.WhenBelowY, api.Scene{Amount: 99}, true},
		{api.WhenBelowY, api.Scene{Amount: 100}, false},
		{api.WhenBelowY, api.Scene{Amount: 101}, false},
		{api.WhenAboveY, api.Scene{Amount: 99}, false},
		{api.WhenAboveY, api.Scene{Amount: 100}, false},
		{api.WhenAboveY, api.Scene{Amount: 101}, true},
	} {
		want := api.Walked{Code: -1, Bits: api.BitWays}
		if c.want {
			want = api.Walked{Code: api.WayNone, Well: true}
		}
		if x, e := rule.Walk(listed(api.Way{Code: api.WayNone, When: c.when}), c.s); x != want || e != api.OK {
			t.Errorf("Walk when %d, %+v: %+v %d, and must be %+v", c.when, c.s, x, e, want)
		}
	}
}

// TestWhetherAWayGoesWell has one way, that applies.
func TestWhetherAWayGoesWell(t *testing.T) {
	for code := range 64 {
		one := []int{63, code, 0}
		for _, s := range []api.Scene{{}, {Able: one}, {Well: one}, {Able: one, Well: one}} {
			want := api.Walked{Code: code, Bits: api.BitWays}
			switch {
			case code == 5, code >= 1 && code <= 4 && s.Able != nil && s.Well != nil:
				want = api.Walked{Code: code, Well: true}
			case code > 5:
				want.Bits = api.BitWays | api.BitUnknown
			}
			for _, next := range []bool{false, true} {
				if x, e := rule.Walk(listed(api.Way{Code: code, Next: next}), s); x != want || e != api.OK {
					t.Errorf("Walk of %d, next %v, %+v: %+v %d, and must be %+v", code, next, s, x, e, want)
				}
			}
		}
	}
}

func TestWalk(t *testing.T) {
	fail, none := api.Way{Code: api.WayFail}, api.Way{Code: api.WayNone}
	sign, strange := api.Way{Code: api.WaySign, Next: true}, api.Way{Code: 9, Next: true}
	never := api.Way{Code: api.WayHost, When: api.WhenCash}
	last := api.Way{Code: api.WayPlain, When: api.WhenNotCash}
	for _, c := range []struct {
		l    []api.Way
		s    api.Scene
		want api.Walked
	}{
		{nil, api.Scene{}, api.Walked{Code: -1, Bits: api.BitWays}},
		{[]api.Way{never}, api.Scene{}, api.Walked{Code: -1, Bits: api.BitWays}},
		{[]api.Way{never, none}, api.Scene{}, api.Walked{Code: 5, Well: true}}, // what does not apply goes on, without Next too
		{[]api.Way{fail, none}, api.Scene{}, api.Walked{Code: 0, Bits: api.BitWays}},
		{[]api.Way{none, fail}, api.Scene{}, api.Walked{Code: 5, Well: true}},
		{[]api.Way{sign, none}, api.Scene{}, api.Walked{Code: 5, Well: true}},
		{[]api.Way{sign, none}, api.Scene{Able: []int{4}, Well: []int{4}}, api.Walked{Code: 4, Well: true}},
		{[]api.Way{sign, none}, api.Scene{Able: []int{4}, Well: []int{1}}, api.Walked{Code: 5, Well: true}},
		{[]api.Way{sign, fail, none}, api.Scene{}, api.Walked{Code: 0, Bits: api.BitWays}},
		{[]api.Way{sign, never}, api.Scene{}, api.Walked{Code: 4, Bits: api.BitWays}},
		{[]api.Way{strange, none}, api.Scene{}, api.Walked{Code: 5, Well: true, Bits: api.BitUnknown}},
		{[]api.Way{strange, sign}, api.Scene{}, api.Walked{Code: 4, Bits: api.BitWays | api.BitUnknown}},
		{[]api.Way{strange, never}, api.Scene{}, api.Walked{Code: 9, Bits: api.BitWays | api.BitUnknown}},
		{[]api.Way{strange, fail, none}, api.Scene{}, api.Walked{Code: 0, Bits: api.BitWays | api.BitUnknown}},
		{[]api.Way{{Code: 9}, none}, api.Scene{}, api.Walked{Code: 9, Bits: api.BitWays | api.BitUnknown}},
		{[]api.Way{none, strange}, api.Scene{}, api.Walked{Code: 5, Well: true}},
		{[]api.Way{{Code: 9, When: api.WhenCash}, none}, api.Scene{}, api.Walked{Code: 5, Well: true}}, // what is not gone is not found
		{[]api.Way{{Code: 9, When: api.WhenAble, Next: true}, none}, api.Scene{Able: []int{9}, Well: []int{9}}, api.Walked{Code: 5, Well: true, Bits: api.BitUnknown}},
		{[]api.Way{sign, last, none}, api.Scene{Able: []int{1, 4}}, api.Walked{Code: 1, Bits: api.BitWays}},
		{[]api.Way{sign, last, none}, api.Scene{Able: []int{1, 4}, Well: []int{1}}, api.Walked{Code: 1, Well: true}},
		{[]api.Way{sign, last, none}, api.Scene{Able: []int{4}, Well: []int{1, 4}}, api.Walked{Code: 4, Well: true}},
		{[]api.Way{sign, last, none}, api.Scene{Cash: true}, api.Walked{Code: 5, Well: true}},
	} {
		if x, e := rule.Walk(listed(c.l...), c.s); x != c.want || e != api.OK {
			t.Errorf("Walk(%+v, %+v): %+v %d, and must be %+v", c.l, c.s, x, e, c.want)
		}
	}
}

// walked is what comes of the ways that are left, one at a time.
func walked(w api.Ways, s api.Scene, so api.Walked) api.Walked {
	so.Bits |= api.BitWays
	if len(w.List) == 0 {
		return so
	}
	way := w.List[0]
	w.List = w.List[1:]
	able, well := slices.Contains(s.Able, way.Code), slices.Contains(s.Well, way.Code)
	if ![]bool{true, s.Cash, !s.Cash, able, s.Amount < w.X, s.Amount > w.X, s.Amount < w.Y, s.Amount > w.Y}[way.When] {
		return walked(w, s, so)
	}
	so.Code = way.Code
	if way.Code >= 6 {
		so.Bits |= api.BitUnknown
	}
	if way.Code == 5 || way.Code >= 1 && way.Code <= 4 && able && well {
		return api.Walked{Code: way.Code, Well: true, Bits: so.Bits &^ api.BitWays}
	}
	if !way.Next {
		return so
	}
	return walked(w, s, so)
}

func TestWalkOfManyWays(t *testing.T) {
	var d draw
	ends := map[api.Walked]int{}
	for range 50000 {
		w := api.Ways{X: d.below(4), Y: d.below(4)}
		for range d.below(7) {
			w.List = append(w.List, api.Way{Code: d.below(8), When: d.below(8), Next: d.below(4) > 0})
		}
		s := api.Scene{Amount: d.below(5), Cash: d.below(2) == 0, Able: d.some(8), Well: d.some(8)}
		x, e := rule.Walk(w, s)
		if want := walked(w, s, api.Walked{Code: -1}); x != want || e != api.OK {
			t.Fatalf("Walk(%+v, %+v): %+v %d, and must be %+v", w, s, x, e, want)
		}
		ends[x]++
	}
	if len(ends) < 20 {
		t.Errorf("only %d ends were seen", len(ends))
	}
}

// F3

// guard is how a shop guards itself, as it must be.
func guard() api.Risk {
	return api.Risk{Floor: 100, From: 40, Share: 10, Most: 70, Lower: 2, Upper: 4, Black: []string{"4", "44"}}
}

func risk(change func(*api.Risk)) api.Risk { r := guard(); change(&r); return r }

// seen is what finds nothing.
func seen(change func(*api.Seen)) api.Seen {
	s := api.Seen{Id: "5", Amount: 10, Count: 3, Last: 3, Draw: 99}
	change(&s)
	return s
}

func TestCheckRisk(t *testing.T) {
	for _, c := range []struct {
		change func(r *api.Risk, n int)
		good   []int
		wrong  []int
	}{
		{func(r *api.Risk, n int) { r.Floor, r.From = n, 0 }, []int{0, 1, 999999999999}, []int{-1, 1000000000000, math.MinInt, math.MaxInt}},
		{func(r *api.Risk, n int) { r.Floor = n }, []int{40, 41, 999999999999}, []int{39, 0, -1}},
		{func(r *api.Risk, n int) { r.From = n }, []int{0, 40, 99, 100}, []int{-1, 101, math.MinInt, math.MaxInt}},
		{func(r *api.Risk, n int) { r.From, r.Floor = n, n }, []int{0, 999999999999}, []int{-1, 1000000000000}},
		{func(r *api.Risk, n int) { r.Share = n }, []int{0, 1, 69, 70}, []int{-1, 71, 99, 100, math.MinInt, math.MaxInt}},
		{func(r *api.Risk, n int) { r.Most = n }, []int{10, 11, 98, 99}, []int{9, 0, -1, 100, math.MinInt, math.MaxInt}},
		{func(r *api.Risk, n int) { r.Share, r.Most = n, n }, []int{0, 99}, []int{-1, 100}},
		{func(r *api.Risk, n int) { r.Lower = n }, []int{0, 5, 254, 255}, []int{-1, 256, math.MinInt, math.MaxInt}},
		{func(r *api.Risk, n int) { r.Upper = n }, []int{0, 1, 254, 255}, []int{-1, 256, math.MinInt, math.MaxInt}},
	} {
		for _, n := range c.good {
			r := risk(func(r *api.Risk) { c.change(r, n) })
			if e := rule.CheckRisk(r); e != api.OK {
				t.Errorf("CheckRisk(%+v): %d", r, e)
			}
		}
		for _, n := range c.wrong {
			r := risk(func(r *api.Risk) { c.change(r, n) })
			if e := rule.CheckRisk(r); e != api.ErrRange {
				t.Errorf("CheckRisk(%+v): %d", r, e)
			}
			if bits, e := rule.Judge(r, seen(func(s *api.Seen) {})); bits != 0 || e != api.ErrRange {
				t.Errorf("Judge(%+v): %d %d", r, bits, e)
			}
		}
	}
	for _, c := range []struct {
		r    api.Risk
		want api.Errno
	}{
		{api.Risk{}, api.OK},
		{risk(func(r *api.Risk) { r.Black = make([]string, 1000) }), api.OK},
		{risk(func(r *api.Risk) { r.Black = make([]string, 1001) }), api.ErrLong},
		{risk(func(r *api.Risk) { r.Black, r.Floor = make([]string, 1001), -1 }), api.ErrLong},
		{risk(func(r *api.Risk) { r.Lower, r.Upper = 200, 100 }), api.OK},
	} {
		if e := rule.CheckRisk(c.r); e != c.want {
			t.Errorf("CheckRisk(%.200v): %d, and must be %d", c.r, e, c.want)
		}
		if bits, e := rule.Judge(c.r, api.Seen{Amount: -1}); bits != 0 || c.want != api.OK && e != c.want {
			t.Errorf("Judge(%.200v): %d %d, and must have %d", c.r, bits, e, c.want)
		}
	}
}

func TestWhatIsNotSeen(t *testing.T) {
	for _, c := range []struct {
		change func(s *api.Seen, n int)
		good   []int
		wrong  []int
	}{
		{func(s *api.Seen, n int) { s.Amount = n }, []int{0, 999999999999}, []int{-1, 1000000000000, math.MinInt, math.MaxInt}},
		{func(s *api.Seen, n int) { s.Other = n }, []int{0, 999999999999}, []int{-1, 1000000000000, math.MinInt, math.MaxInt}},
		{func(s *api.Seen, n int) { s.Amount, s.Other = n, n }, []int{999999999999}, []int{math.MaxInt}},
		{func(s *api.Seen, n int) { s.Count = n }, []int{0, 65535}, []int{-1, 65536, math.MinInt, math.MaxInt}},
		{func(s *api.Seen, n int) { s.Last = n }, []int{0, 65535}, []int{-1, 65536, math.MinInt, math.MaxInt}},
		{func(s *api.Seen, n int) { s.Draw = n }, []int{1, 99}, []int{0, -1, 100, math.MinInt, math.MaxInt}},
	} {
		for _, n := range c.good {
			if _, e := rule.Judge(guard(), seen(func(s *api.Seen) { c.change(s, n) })); e != api.OK {
				t.Errorf("Judge, %d: %d", n, e)
			}
		}
		for _, n := range c.wrong {
			s := seen(func(s *api.Seen) { c.change(s, n) })
			if bits, e := rule.Judge(guard(), s); bits != 0 || e != api.ErrRange {
				t.Errorf("Judge(%+v): %d %d", s, bits, e)
			}
		}
	}
}

func TestJudge(t *testing.T) {
	for _, c := range []struct {
		change func(s *api.Seen)
		want   int
	}{
		{func(s *api.Seen) {}, 0},
		{func(s *api.Seen) { s.Amount = 99 }, 0},
		{func(s *api.Seen) { s.Amount = 100 }, api.BitFloor},
		{func(s *api.Seen) { s.Amount = 101 }, api.BitFloor},
		{func(s *api.Seen) { s.Amount, s.Draw = 100, 1 }, api.BitFloor}, // nothing is drawn there
		{func(s *api.Seen) { s.Amount = 999999999999; s.Other = 999999999999 }, api.BitFloor},
		{func(s *api.Seen) { s.Other = 89 }, 0},
		{func(s *api.Seen) { s.Other = 90 }, api.BitFloor},
		{func(s *api.Seen) { s.Other, s.Draw = 90, 10 }, api.BitFloor | api.BitDrawn}, // the amount alone is drawn
		{func(s *api.Seen) { s.Other, s.Draw = 50, 11 }, 0},                           // and tells the percent
		{func(s *api.Seen) { s.Draw = 10 }, api.BitDrawn},
		{func(s *api.Seen) { s.Draw = 11 }, 0},
		{func(s *api.Seen) { s.Amount, s.Draw = 0, 10 }, api.BitDrawn},
		{func(s *api.Seen) { s.Amount, s.Draw = 39, 11 }, 0},
		{func(s *api.Seen) { s.Amount, s.Draw = 40, 10 }, api.BitDrawn},
		{func(s *api.Seen) { s.Amount, s.Draw = 40, 11 }, 0},
		{func(s *api.Seen) { s.Amount, s.Draw = 41, 11 }, api.BitDrawn},
		{func(s *api.Seen) { s.Amount, s.Draw = 41, 12 }, 0},
		{func(s *api.Seen) { s.Amount, s.Draw = 99, 69 }, api.BitDrawn},
		{func(s *api.Seen) { s.Amount, s.Draw = 99, 70 }, 0},
		{func(s *api.Seen) { s.Count = 5 }, 0},
		{func(s *api.Seen) { s.Count = 6 }, api.BitLower},
		{func(s *api.Seen) { s.Count = 7 }, api.BitLower},
		{func(s *api.Seen) { s.Count = 8 }, api.BitLower | api.BitUpper},
		{func(s *api.Seen) { s.Count = 65535 }, api.BitLower | api.BitUpper},
		{func(s *api.Seen) { s.Count = 2 }, 0}, // a last one above the count is far from both
		{func(s *api.Seen) { s.Last = 65535 }, 0},
		{func(s *api.Seen) { s.Last, s.Count = 0, 0 }, api.BitNew},
		{func(s *api.Seen) { s.Last, s.Count = 0, 2 }, api.BitNew},
		{func(s *api.Seen) { s.Last, s.Count = 0, 3 }, api.BitNew | api.BitLower},
		{func(s *api.Seen) { s.Last, s.Count = 1, 1 }, 0},
		{func(s *api.Seen) { s.Id = "4" }, api.BitBlack},
		{func(s *api.Seen) { s.Id = "44" }, api.BitBlack},
		{func(s *api.Seen) { s.Id = "444" }, 0},
		{func(s *api.Seen) { s.Id = "" }, 0},
		{func(s *api.Seen) { *s = api.Seen{Id: "4", Amount: 50, Other: 50, Count: 9, Draw: 1} }, api.BitFloor | api.BitDrawn | api.BitLower | api.BitUpper | api.BitNew | api.BitBlack},
	} {
		s := seen(c.change)
		if bits, e := rule.Judge(guard(), s); bits != c.want || e != api.OK {
			t.Errorf("Judge(%+v): %d %d, and must be %d", s, bits, e, c.want)
		}
	}
}

func TestJudgeOfOtherRisks(t *testing.T) {
	for _, c := range []struct {
		r    api.Risk
		s    api.Seen
		want int
	}{
		{api.Risk{}, api.Seen{Last: 1, Draw: 1}, api.BitFloor},
		{api.Risk{Floor: 1}, api.Seen{Last: 1, Draw: 1}, 0}, // a share of none draws nobody
		{api.Risk{Floor: 1, Most: 99}, api.Seen{Last: 1, Draw: 1}, 0},
		{api.Risk{Floor: 1, From: 1, Share: 1, Most: 99}, api.Seen{Last: 1, Draw: 1}, api.BitDrawn},
		{api.Risk{Floor: 1, From: 1, Share: 1, Most: 99}, api.Seen{Last: 1, Draw: 2}, 0},
		{api.Risk{Floor: 1, Share: 99, Most: 99}, api.Seen{Last: 1, Draw: 99}, api.BitDrawn},
		{api.Risk{Floor: 1}, api.Seen{Last: 1, Count: 1, Draw: 1}, 0},
		{api.Risk{Floor: 1}, api.Seen{Last: 1, Count: 2, Draw: 1}, api.BitLower | api.BitUpper},
		{api.Risk{Floor: 1, Lower: 255, Upper: 1}, api.Seen{Last: 1, Count: 3, Draw: 1}, api.BitUpper},
		{api.Risk{Floor: 1, Lower: 255, Upper: 255}, api.Seen{Last: 1, Count: 256, Draw: 1}, 0},
		{api.Risk{Floor: 1, Lower: 255, Upper: 255}, api.Seen{Last: 1, Count: 257, Draw: 1}, api.BitLower | api.BitUpper},
		{api.Risk{Floor: 1, Black: []string{""}}, api.Seen{Last: 1, Draw: 1}, api.BitBlack},
		{api.Risk{Floor: 1, Black: append(make([]string, 999), "\xff")}, api.Seen{Id: "\xff", Last: 1, Draw: 1}, api.BitBlack},
		{api.Risk{Floor: 999999999999, Most: 99}, api.Seen{Amount: 999999999998, Last: 1, Draw: 98}, api.BitDrawn},
		{api.Risk{Floor: 999999999999, Most: 99}, api.Seen{Amount: 999999999998, Last: 1, Draw: 99}, 0},
	} {
		if bits, e := rule.Judge(c.r, c.s); bits != c.want || e != api.OK {
			t.Errorf("Judge(%.200v, %+v): %d %d, and must be %d", c.r, c.s, bits, e, c.want)
		}
	}
}

// percent is the greatest draw of which somebody is drawn; 0, if of none.
func percent(t *testing.T, r api.Risk, amount int) int {
	t.Helper()
	most := 0
	for n := 1; n <= 99; n++ {
		bits, e := rule.Judge(r, api.Seen{Amount: amount, Last: 1, Draw: n})
		if e != api.OK {
			t.Fatalf("Judge(%+v) of %d: error %d", r, amount, e)
		}
		if bits&api.BitDrawn == 0 {
			continue
		}
		if n != most+1 {
			t.Fatalf("Judge(%+v) of %d: drawn of %d, not of %d", r, amount, n, n-1)
		}
		most = n
	}
	return most
}

// steps is the percent, told by counting how often the divisor has room.
func steps(r api.Risk, amount int) int {
	out := r.Share
	for part := (r.Most - r.Share) * (amount - r.From); amount >= r.From && part >= r.Floor-r.From; part -= r.Floor - r.From {
		out++
	}
	return out
}

func TestThePercentOfManyRisks(t *testing.T) {
	var d draw
	for range 100 {
		r := api.Risk{Floor: 1 + d.below(150)}
		r.From = d.below(r.Floor + 1)
		r.Share = d.below(100)
		r.Most = r.Share + d.below(100-r.Share)
		for amount := range r.Floor {
			if n := percent(t, r, amount); n != steps(r, amount) {
				t.Fatalf("%+v: %d of %d, and must be %d", r, n, amount, steps(r, amount))
			}
		}
		if n := percent(t, r, r.Floor); n != 0 {
			t.Fatalf("%+v: %d at the floor", r, n)
		}
	}
}

// F4

func TestDecideOfWhatIsWrong(t *testing.T) {
	for n, want := range map[int]api.Errno{math.MinInt: api.ErrRange, -1: api.ErrRange, 0: api.OK, 4095: api.OK, 4096: api.ErrRange, 1 << 40: api.ErrRange, math.MaxInt: api.ErrRange} {
		for i, m := range []api.Masks{{}, {Decline: n}, {Online: n}, {Default: n}} {
			bits := 0
			if i == 0 {
				bits = n
			}
			for _, able := range []bool{true, false} {
				for who, ask := range map[string]func() (int, api.Errno){
					"card": func() (int, api.Errno) { return rule.Decide(bits, m, api.Masks{}, able) },
					"shop": func() (int, api.Errno) { return rule.Decide(bits, api.Masks{}, m, able) },
				} {
					if do, e := ask(); e != want || e == api.OK && do != api.Approve || e != api.OK && do != 0 {
						t.Errorf("Decide(%d), %s %+v, %v: %d %d, and must have %d", bits, who, m, able, do, e, want)
					}
				}
			}
		}
	}
}

// decided is what the document says is done.
func decided(bits int, card api.Masks, shop api.Masks, able bool) int {
	decline, online, without := false, false, false
	for bit := 1; bit < 4096; bit *= 2 {
		if bits/bit%2 == 0 {
			continue
		}
		decline = decline || card.Decline/bit%2 == 1 || shop.Decline/bit%2 == 1
		online = online || card.Online/bit%2 == 1 || shop.Online/bit%2 == 1
		without = without || card.Default/bit%2 == 1 || shop.Default/bit%2 == 1
	}
	if decline {
		return 1
	}
	if able && online {
		return 2
	}
	if !able && without {
		return 1
	}
	return 3
}

// TestDecideOfEachBit has one bit found, and one in one mask, of either.
func TestDecideOfEachBit(t *testing.T) {
	for i := range 12 {
		for j := range 12 {
			for _, able := range []bool{true, false} {
				for k, m := range []api.Masks{{Decline: 1 << j}, {Online: 1 << j}, {Default: 1 << j}} {
					want := api.Approve
					switch {
					case i != j:
					case k == 0, k == 2 && !able:
						want = api.Decline
					case k == 1 && able:
						want = api.Online
					}
					mine, e := rule.Decide(1<<i, m, api.Masks{}, able)
					yours, f := rule.Decide(1<<i, api.Masks{}, m, able)
					if mine != want || yours != want || e != api.OK || f != api.OK {
						t.Errorf("Decide(%d, %+v, %v): %d %d, %d %d, and must be %d", 1<<i, m, able, mine, e, yours, f, want)
					}
				}
			}
		}
	}
}

func TestDecideWhereSeveralApply(t *testing.T) {
	all := api.Masks{Decline: 4095, Online: 4095, Default: 4095}
	for _, c := range []struct {
		bits       int
		card, shop api.Masks
		able       bool
		want       int
	}{
		{0, all, all, true, api.Approve},
		{0, all, all, false, api.Approve},
		{1, all, api.Masks{}, true, api.Decline},
		{1, api.Masks{Online: 1}, api.Masks{Decline: 1}, true, api.Decline},
		{3, api.Masks{Online: 1}, api.Masks{Decline: 2}, true, api.Decline},
		{3, api.Masks{Online: 1}, api.Masks{Default: 2}, true, api.Online},
		{3, api.Masks{Online: 1}, api.Masks{Default: 2}, false, api.Decline},
		{3, api.Masks{Online: 3}, api.Masks{Default: 4}, false, api.Approve},
		{3, api.Masks{Online: 4}, api.Masks{Default: 3}, true, api.Approve},
		{4095, api.Masks{}, api.Masks{}, true, api.Approve},
		{4095, api.Masks{}, api.Masks{}, false, api.Approve},
		{api.BitFloor, api.Masks{}, api.Masks{Online: api.BitFloor}, true, api.Online},
		{api.BitFloor, api.Masks{}, api.Masks{Online: api.BitFloor}, false, api.Approve},
	} {
		if do, e := rule.Decide(c.bits, c.card, c.shop, c.able); do != c.want || e != api.OK {
			t.Errorf("Decide(%d, %+v, %+v, %v): %d %d, and must be %d", c.bits, c.card, c.shop, c.able, do, e, c.want)
		}
	}
}

// F5

// masks are some with few bits, so that there is something to choose.
func (d *draw) masks() api.Masks {
	few := func() int { return d.below(4096) & d.below(4096) & d.below(4096) & d.below(4096) }
	return api.Masks{Decline: few(), Online: few(), Default: few()}
}

func TestMoreBitsAreNeverLessStrict(t *testing.T) {
	var d draw
	did := map[int]int{}
	for range 50000 {
		more := d.below(4096) & d.below(4096)
		some := more & d.below(4096)
		card, shop := d.masks(), d.masks()
		for _, able := range []bool{true, false} {
			a, e := rule.Decide(more, card, shop, able)
			b, f := rule.Decide(some, card, shop, able)
			if a > b || e != api.OK || f != api.OK {
				t.Fatalf("Decide of %d: %d %d, of %d: %d %d (%+v, %+v, %v)", more, a, e, some, b, f, card, shop, able)
			}
			if a != decided(more, card, shop, able) || b != decided(some, card, shop, able) {
				t.Fatalf("Decide of %d: %d, of %d: %d (%+v, %+v, %v)", more, a, some, b, card, shop, able)
			}
			did[a]++
		}
	}
	for _, do := range []int{api.Decline, api.Online, api.Approve} {
		if did[do] < 5000 {
			t.Errorf("%d was decided only %d times", do, did[do])
		}
	}
}

func TestThePercentNeverSinks(t *testing.T) {
	var d draw
	for range 20 {
		r := api.Risk{Floor: 1000 + 465*d.below(1<<31)}
		r.From = r.Floor / 1000 * d.below(1000)
		r.Share = d.below(100)
		r.Most = r.Share + d.below(100-r.Share)
		last := 0
		for i := range 50 {
			n := percent(t, r, (r.Floor-1)/49*i)
			if n < last || n < r.Share || n > r.Most {
				t.Fatalf("%+v: %d behind %d", r, n, last)
			}
			last = n
		}
	}
}

// P2

func TestWhatIsHandedInIsOnlyRead(t *testing.T) {
	ways := append(make([]api.Way, 0, 30), api.Way{Code: api.WaySign, Next: true}, api.Way{Code: 9})
	able := append(make([]int, 0, 30), 4, 1)
	well := append(make([]int, 0, 30), 3)
	black := append(make([]string, 0, 30), "5", "4")
	for i := range 28 {
		black[:30][i+2] = strconv.Itoa(i)
	}
	a, b, c, e := slices.Clone(ways[:30]), slices.Clone(able[:30]), slices.Clone(well[:30]), slices.Clone(black[:30])
	first, _ := rule.Walk(listed(ways...), api.Scene{Able: able, Well: well})
	if again, _ := rule.Walk(api.Ways{X: 50, Y: 100, List: ways}, api.Scene{Able: able, Well: well}); again != first {
		t.Errorf("Walk: %+v, then %+v", first, again)
	}
	r := risk(func(r *api.Risk) { r.Black = black })
	rule.CheckRisk(r)
	rule.Judge(r, seen(func(s *api.Seen) {}))
	if !slices.Equal(ways[:30], a) || !slices.Equal(able[:30], b) || !slices.Equal(well[:30], c) || !slices.Equal(black[:30], e) {
		t.Error("what was handed in has changed")
	}
}
