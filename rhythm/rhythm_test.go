package rhythm_test

import (
	"math"
	"math/big"
	"math/rand"
	"testing"

	"purser/api"
	"purser/rhythm"
)

const (
	most   = 1 << 50
	maxDay = 1 << 30
)

func of(a, b, c, d int) rhythm.Rhythm {
	return rhythm.Rhythm{Quarters: [4]int{a, b, c, d}}
}

// wrong answers rhythms that aren't right, each quarter in turn.
func wrong() []rhythm.Rhythm {
	var all []rhythm.Rhythm
	for quarter := range 4 {
		for _, n := range []int{-1, most + 1, math.MinInt, math.MaxInt} {
			r := of(5, 6, 7, 8)
			r.Quarters[quarter] = n
			all = append(all, r)
		}
	}
	return all
}

func TestP12_1_TheQuarterOfATime(t *testing.T) {
	for _, c := range []struct{ now, day, want int }{
		{0, 4, 0}, {1, 4, 1}, {3, 4, 3}, {4, 4, 0}, {47, 24, 3}, {5, 24, 0}, {6, 24, 1}, {12, 24, 2}, {17, 24, 2}, {18, 24, 3},
		{1, 5, 0}, {2, 5, 1}, {3, 5, 2}, {4, 5, 3}, {5, 5, 0},
		{maxDay - 1, maxDay, 3}, {maxDay, maxDay, 0}, {maxDay / 2, maxDay, 2}, {maxDay/4 - 1, maxDay, 0}, {math.MaxInt, maxDay, 3}, {math.MaxInt, 4, 3},
	} {
		if q, err := rhythm.Quarter(c.now, c.day); q != c.want || err != api.OK {
			t.Errorf("%d by %d: %d, %d", c.now, c.day, q, err)
		}
	}
	// By times that are counted: a quarter begins where four times the time has come to so many days.
	for day := 4; day <= 13; day++ {
		for now := range 3 * day {
			want := 0
			for 4*(now%day) >= (want+1)*day {
				want++
			}
			if q, err := rhythm.Quarter(now, day); q != want || err != api.OK {
				t.Errorf("%d by %d: %d, %d", now, day, q, err)
			}
		}
	}
}

func TestP12_1_OfNoTimeOrDayThereIsNoQuarter(t *testing.T) {
	for _, c := range [][2]int{{-1, 24}, {math.MinInt, 4}, {3, 3}, {3, 2}, {3, 1}, {3, 0}, {3, -24}, {3, math.MinInt}, {3, maxDay + 1}, {3, math.MaxInt}} {
		if q, err := rhythm.Quarter(c[0], c[1]); q != 0 || err != api.ErrArg {
			t.Errorf("%v: %d, %d", c, q, err)
		}
	}
}

func TestP12_1_UsageMore(t *testing.T) {
	for quarter := range 4 {
		want := of(1, 2, 3, 4)
		want.Quarters[quarter] += 5
		if r, err := rhythm.Add(of(1, 2, 3, 4), quarter, 5); r != want || err != api.OK {
			t.Errorf("quarter %d: %v, %d", quarter, r, err)
		}
		if r, err := rhythm.Add(of(1, 2, 3, 4), quarter, 0); r != of(1, 2, 3, 4) || err != api.OK {
			t.Errorf("quarter %d: %v, %d", quarter, r, err)
		}
	}
	if r, err := rhythm.Add(rhythm.Rhythm{}, 2, most); r != of(0, 0, most, 0) || err != api.OK {
		t.Error(r, err)
	}
	if r, err := rhythm.Add(of(0, most-1, 0, 0), 1, 1); r != of(0, most, 0, 0) || err != api.OK {
		t.Error(r, err)
	}
	if r, err := rhythm.Add(of(most, most, most, most), 3, 0); r != of(most, most, most, most) || err != api.OK {
		t.Error(r, err)
	}
	for _, c := range [][2]int{{0, most + 1}, {1, most}, {most, 1}, {0, math.MaxInt}, {most, math.MaxInt}} {
		if r, err := rhythm.Add(of(0, 0, 0, c[0]), 3, c[1]); r != of(0, 0, 0, 0) || err != api.ErrOver {
			t.Errorf("%v: %v, %d", c, r, err)
		}
	}
}

func TestP12_1_UsageThatIsNotAdded(t *testing.T) {
	type args struct {
		r               rhythm.Rhythm
		quarter, blocks int
	}
	full := of(most, most, most, most)
	all := []args{{full, -1, 1}, {full, 4, 1}, {full, math.MinInt, 1}, {full, math.MaxInt, 1}, {of(1, 1, 1, 1), 0, -1}, {of(1, 1, 1, 1), 0, math.MinInt}}
	for _, r := range wrong() {
		for quarter := range 4 {
			all = append(all, args{r, quarter, 0}, args{r, quarter, math.MaxInt})
		}
	}
	for _, a := range all {
		if r, err := rhythm.Add(a.r, a.quarter, a.blocks); r != of(0, 0, 0, 0) || err != api.ErrArg {
			t.Errorf("%+v: %v, %d", a, r, err)
		}
	}
}

func TestP12_1_TwoTogether(t *testing.T) {
	if r, err := rhythm.Join(of(1, 2, 3, 4), of(50, 60, 70, 80)); r != of(51, 62, 73, 84) || err != api.OK {
		t.Error(r, err)
	}
	if r, err := rhythm.Join(of(most, 0, most-1, 0), of(0, most, 1, 0)); r != of(most, most, most, 0) || err != api.OK {
		t.Error(r, err)
	}
	for quarter := range 4 {
		a, b := of(9, 9, 9, 9), of(1, 1, 1, 1)
		a.Quarters[quarter] = most
		for _, pair := range [][2]rhythm.Rhythm{{a, b}, {b, a}, {a, a}} {
			if r, err := rhythm.Join(pair[0], pair[1]); r != of(0, 0, 0, 0) || err != api.ErrOver {
				t.Errorf("%v: %v, %d", pair, r, err)
			}
		}
	}
	full := of(most, most, most, most)
	for _, bad := range wrong() {
		for _, good := range []rhythm.Rhythm{full, of(0, 0, 0, 0), of(9, 9, 9, 9)} {
			if r, err := rhythm.Join(bad, good); r != of(0, 0, 0, 0) || err != api.ErrArg {
				t.Errorf("%v and %v: %v, %d", bad, good, r, err)
			}
			if r, err := rhythm.Join(good, bad); r != of(0, 0, 0, 0) || err != api.ErrArg {
				t.Errorf("%v and %v: %v, %d", good, bad, r, err)
			}
		}
	}
}

func TestP12_1_QuartersLater(t *testing.T) {
	turns := [4]rhythm.Rhythm{of(1, 2, 3, 4), of(4, 1, 2, 3), of(3, 4, 1, 2), of(2, 3, 4, 1)}
	for n, want := range map[int]int{
		0: 0, 1: 1, 2: 2, 3: 3, 4: 0, 5: 1, 1002: 2, math.MaxInt: 3, math.MaxInt - 1: 2,
		-1: 3, -2: 2, -3: 1, -4: 0, -5: 3, math.MinInt: 0, math.MinInt + 1: 1,
	} {
		if r := rhythm.Turn(of(1, 2, 3, 4), n); r != turns[want] {
			t.Errorf("by %d: %v", n, r)
		}
	}
	// What isn't right is turned as it is.
	if r := rhythm.Turn(of(-1, math.MaxInt, math.MinInt, 0), -1); r != of(math.MaxInt, math.MinInt, 0, -1) {
		t.Error(r)
	}
}

// parts answers the vector's parts by ints.
func parts(r rhythm.Rhythm) (along, across int) {
	q := r.Quarters
	return q[0] - q[2], q[1] - q[3]
}

// rhythms answers many that are right, the edges among them.
func rhythms() []rhythm.Rhythm {
	var all []rhythm.Rhythm
	edges := []int{0, 1, 2, 3, most - 1, most}
	for _, a := range edges {
		for _, b := range edges {
			for _, c := range edges {
				for _, d := range edges {
					all = append(all, of(a, b, c, d))
				}
			}
		}
	}
	r := rand.New(rand.NewSource(12))
	n := func() int { return r.Intn(1 + r.Intn(1<<r.Intn(51))) }
	for range 3000 {
		all = append(all, of(n(), n(), n(), n()))
	}
	return all
}

// positive says whether a part is no nought below nought.
func positive(x float64) bool { return x != 0 || !math.Signbit(x) }

func TestP12_1_TheVector(t *testing.T) {
	for _, r := range rhythms() {
		v := rhythm.Vector(r)
		along, across := parts(r)
		if real(v) != float64(along) || imag(v) != float64(across) || int(real(v)) != along || int(imag(v)) != across {
			t.Errorf("%v: %v", r, v)
		}
		if !positive(real(v)) || !positive(imag(v)) {
			t.Errorf("%v: %v has a nought below nought", r, v)
		}
	}
	for _, r := range wrong() {
		if v := rhythm.Vector(r); v != 0 {
			t.Errorf("%v: %v", r, v)
		}
	}
}

func TestP12_2_AQuarterLaterIsAQuarterOfATurn(t *testing.T) {
	for _, r := range rhythms() {
		v := rhythm.Vector(r)
		for n := 1; n <= 4; n++ {
			v *= 1i
			if w := rhythm.Vector(rhythm.Turn(r, n)); w != v {
				t.Errorf("%v by %d: %v, not %v", r, n, w, v)
			}
		}
	}
}

func TestP12_2_TheVectorOfTwoTogetherIsTheSum(t *testing.T) {
	all := rhythms()
	for i, a := range all {
		b := all[(i*7+3)%len(all)]
		r, err := rhythm.Join(a, b)
		if err == api.OK && rhythm.Vector(r) != rhythm.Vector(a)+rhythm.Vector(b) {
			t.Errorf("%v and %v: %v", a, b, rhythm.Vector(r))
		}
	}
}

func TestP12_3_TheSameInAllQuartersPointsNowhere(t *testing.T) {
	for _, n := range []int{0, 1, 7, most - 1, most} {
		r := of(n, n, n, n)
		if v := rhythm.Vector(r); v != 0 {
			t.Error(n, v)
		}
		if q, ok := rhythm.Peak(r); q != 0 || ok {
			t.Error(n, q, ok)
		}
		if s, ok := rhythm.Strength(r); s != 0 || !ok {
			t.Error(n, s, ok)
		}
		if total := rhythm.Total(r); total != 4*n {
			t.Error(n, total)
		}
	}
	// So do quarters that stand against each other.
	if q, ok := rhythm.Peak(of(3, 8, 3, 8)); q != 0 || ok {
		t.Error(q, ok)
	}
}

func TestP12_1_TheExample(t *testing.T) {
	r := of(0, 5, 0, 2)
	if v := rhythm.Vector(r); v != 3i {
		t.Error(v)
	}
	if q, ok := rhythm.Peak(r); q != 1 || !ok {
		t.Error(q, ok)
	}
	if n, ok := rhythm.Strength(r); n != 9 || !ok {
		t.Error(n, ok)
	}
}

func TestP12_1_WhereUsagePoints(t *testing.T) {
	for _, c := range []struct {
		along, across, want int
		ok                  bool
	}{
		{1, 0, 0, true}, {0, 1, 1, true}, {-1, 0, 2, true}, {0, -1, 3, true}, {0, 0, 0, false},
		// Between two quarters: those along have the lines between them.
		{1, 1, 0, true}, {-1, 1, 2, true}, {-1, -1, 2, true}, {1, -1, 0, true},
		{2, 1, 0, true}, {1, 2, 1, true}, {-1, 2, 1, true}, {-2, 1, 2, true}, {-2, -1, 2, true}, {-1, -2, 3, true}, {1, -2, 3, true}, {2, -1, 0, true},
		{most, most, 0, true}, {most - 1, most, 1, true}, {1 - most, most, 1, true}, {-most, most, 2, true}, {-most, -most, 2, true}, {1 - most, -most, 3, true}, {most - 1, -most, 3, true}, {most, -most, 0, true},
	} {
		r := of(max(c.along, 0), max(c.across, 0), max(-c.along, 0), max(-c.across, 0))
		if q, ok := rhythm.Peak(r); q != c.want || ok != c.ok {
			t.Errorf("%d, %d: %d, %v", c.along, c.across, q, ok)
		}
	}
	for _, r := range wrong() {
		if q, ok := rhythm.Peak(r); q != 0 || ok {
			t.Errorf("%v: %d, %v", r, q, ok)
		}
	}
}

func TestP12_1_HowFarItPoints(t *testing.T) {
	for _, r := range rhythms() {
		along, across := parts(r)
		a, b := big.NewInt(int64(along)), big.NewInt(int64(across))
		sum := new(big.Int).Add(a.Mul(a, a), b.Mul(b, b))
		want, fine := 0, sum.IsInt64()
		if fine {
			want = int(sum.Int64())
		}
		if n, ok := rhythm.Strength(r); n != want || ok != fine {
			t.Errorf("%v: %d, %v, not %d, %v", r, n, ok, want, fine)
		}
	}
	for _, r := range wrong() {
		if n, ok := rhythm.Strength(r); n != 0 || ok {
			t.Errorf("%v: %d, %v", r, n, ok)
		}
	}
}

func TestP12_1_StrengthAtTheEndOfTheInts(t *testing.T) {
	// 3037000499 is the root of the greatest int, downwards.
	const root = 3037000499
	for _, c := range []struct {
		r    rhythm.Rhythm
		want int
		ok   bool
	}{
		{of(root, 0, 0, 0), root * root, true},
		{of(0, 0, 0, root), root * root, true},
		{of(root+1, 0, 0, 0), 0, false},
		{of(0, root+1, 0, 0), 0, false},
		{of(root, root, 0, 0), 0, false},
		{of(1<<31, 0, 0, 1<<31), 0, false},
		{of(1<<31, 0, 0, 1<<31-1), 1<<62 + (1<<31-1)*(1<<31-1), true},
		{of(root, 0, 0, 0x13000), 0, false},
		{of(most, 0, 0, 0), 0, false},
		{of(0, most, 0, 0), 0, false},
		{of(most, 0, most, 3), 9, true},
	} {
		if n, ok := rhythm.Strength(c.r); n != c.want || ok != c.ok {
			t.Errorf("%v: %d, %v", c.r, n, ok)
		}
	}
}

func TestP12_1_AllUsage(t *testing.T) {
	for _, r := range rhythms() {
		q := r.Quarters
		if n := rhythm.Total(r); n != q[0]+q[1]+q[2]+q[3] {
			t.Errorf("%v: %d", r, n)
		}
	}
	for _, r := range wrong() {
		if n := rhythm.Total(r); n != 0 {
			t.Errorf("%v: %d", r, n)
		}
	}
}
