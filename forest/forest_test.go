package forest_test

import (
	"fmt"
	"math"
	"slices"
	"testing"

	"reeve/api"
	"reeve/forest"
)

func wood(up ...int) forest.Forest { return forest.Forest{Up: up} }

// tree is a second telling of the chapter: of a list of Ups, what each has above it, as a whole table.
type tree struct {
	up    []int
	good  bool
	above [][]bool // above[i][j]: i came of j, straight or through others
}

// tell makes the table by going through each place in turn, not by going up.
func tell(up []int) tree {
	x := tree{up: up}
	if len(up) > 96 {
		return x
	}
	for i, from := range up {
		x.above = append(x.above, make([]bool, len(up)))
		if from == -1 || from == -2 {
			continue
		}
		if from < 0 || from >= len(up) || up[from] == -2 {
			return x
		}
		x.above[i][from] = true
	}
	for through := range up {
		for i := range up {
			for j := range up {
				x.above[i][j] = x.above[i][j] || x.above[i][through] && x.above[through][j]
			}
		}
	}
	x.good = true
	for i := range up {
		x.good = x.good && !x.above[i][i]
	}
	return x
}

// place tells whether i is a place of a forest that is Good, and what stands there.
func (x tree) place(i int) (int, bool) {
	if !x.good || i < 0 || i >= len(x.up) {
		return 0, false
	}
	return x.up[i], true
}

func (x tree) there(i int) bool {
	up, ok := x.place(i)
	return ok && up != -2
}

func (x tree) free(i int) bool {
	up, ok := x.place(i)
	return ok && up == -2
}

// which gives all places of which something holds, rising.
func (x tree) which(holds func(int) bool) []int {
	var l []int
	for i := range x.up {
		if x.up[i] != -2 && holds(i) {
			l = append(l, i)
		}
	}
	return l
}

// depth counts all that are above one: it came through each of them.
func (x tree) depth(i int) int {
	if !x.there(i) {
		return -1
	}
	return len(x.which(func(j int) bool { return x.above[i][j] }))
}

func (x tree) kids(i int) []int {
	if !x.there(i) {
		return nil
	}
	return x.which(func(j int) bool { return x.up[j] == i })
}

func (x tree) below(i int) []int {
	if !x.there(i) {
		return nil
	}
	return x.which(func(j int) bool { return x.above[j][i] })
}

// line is what one came through, from what came of nothing on, and itself.
func (x tree) line(i int) []int {
	l := x.which(func(j int) bool { return x.above[i][j] })
	slices.SortFunc(l, func(a, b int) int { return x.depth(a) - x.depth(b) })
	return append(l, i)
}

// order sorts all by their lines: a line is ahead of those that begin with it, and they are right behind it.
func (x tree) order() []int {
	if !x.good {
		return nil
	}
	lines := [][]int{}
	for _, i := range x.which(func(int) bool { return true }) {
		lines = append(lines, x.line(i))
	}
	slices.SortFunc(lines, slices.Compare)
	var l []int
	for _, line := range lines {
		l = append(l, line[len(line)-1])
	}
	return l
}

func (x tree) add(i, up int) []int {
	if !x.free(i) || !(x.good && up == -1 || x.there(up)) {
		return nil
	}
	l := slices.Clone(x.up)
	l[i] = up
	return l
}

func (x tree) drop(i int) []int {
	if !x.there(i) {
		return nil
	}
	l := slices.Clone(x.up)
	for _, kid := range x.kids(i) {
		l[kid] = x.up[i]
	}
	l[i] = -2
	return l
}

// move is the forest with the two places' names put for each other: nothing came of the free one.
func (x tree) move(from, to int) []int {
	if !x.there(from) || !x.free(to) {
		return nil
	}
	name := map[int]int{from: to, to: from}
	l := make([]int, len(x.up))
	for i, up := range x.up {
		at, what := i, up
		if other, ok := name[i]; ok {
			at = other
		}
		if other, ok := name[up]; ok {
			what = other
		}
		l[at] = what
	}
	return l
}

func (x tree) prune(i int) []int {
	if !x.there(i) {
		return nil
	}
	l := slices.Clone(x.up)
	for _, j := range x.below(i) {
		l[j] = -2
	}
	return l
}

// short is a list for a test's message: long ones are cut.
func short(l []int) []int { return l[:min(len(l), 12)] }

// checkList holds a list that is answered against that of the second telling.
func checkList(t *testing.T, x tree, call string, got, want []int) {
	t.Helper()
	if !slices.Equal(got, want) {
		t.Errorf("P10.1: %s of %d, %d places: %d, want %d", call, short(x.up), len(x.up), got, want)
	}
}

// checkForest holds a forest that is answered against that of the second telling: none, if it is nil.
func checkForest(t *testing.T, x tree, call string, a, b int, got forest.Forest, ok bool, want []int) {
	t.Helper()
	if ok != (want != nil) || !slices.Equal(got.Up, want) {
		t.Errorf("P10.1: %s(%d, %d) of %d, %d places: %d, %v, want %d", call, a, b, short(x.up), len(x.up), got.Up, ok, want)
	}
	if !ok && got.Up != nil {
		t.Errorf("R2: %s(%d, %d) of %d answers a list beside false", call, a, b, short(x.up))
	}
	if ok && !forest.Good(got) {
		t.Errorf("P10.1: %s(%d, %d) of %d: %d, which is not Good", call, a, b, short(x.up), got.Up)
	}
}

// checkAll holds each call on a forest against the second telling, with each pair of some numbers.
func checkAll(t *testing.T, up []int, numbers []int) {
	t.Helper()
	x, f := tell(slices.Clone(up)), wood(up...)
	if forest.Good(f) != x.good {
		t.Errorf("P10.1: Good(%d), %d places: %v", short(up), len(up), !x.good)
	}
	checkList(t, x, "Order", forest.Order(f), x.order())
	for _, i := range numbers {
		if got := forest.Depth(f, i); got != x.depth(i) {
			t.Errorf("P10.1: Depth of %d, %d places, at %d: %d, want %d", short(up), len(up), i, got, x.depth(i))
		}
		checkList(t, x, fmt.Sprint("Kids at ", i), forest.Kids(f, i), x.kids(i))
		checkList(t, x, fmt.Sprint("Below at ", i), forest.Below(f, i), x.below(i))
		got, ok := forest.Drop(f, i)
		checkForest(t, x, "Drop", i, 0, got, ok, x.drop(i))
		got, ok = forest.Prune(f, i)
		checkForest(t, x, "Prune", i, 0, got, ok, x.prune(i))
		for _, other := range numbers {
			got, ok = forest.Add(f, i, other)
			checkForest(t, x, "Add", i, other, got, ok, x.add(i, other))
			got, ok = forest.Move(f, i, other)
			checkForest(t, x, "Move", i, other, got, ok, x.move(i, other))
		}
	}
	if !slices.Equal(up, x.up) {
		t.Errorf("R4: %d is changed to %d", x.up, up)
	}
}

// from gives the numbers from one up to another, both in.
func from(low, high int) []int {
	var l []int
	for i := low; i <= high; i++ {
		l = append(l, i)
	}
	return l
}

// lists gives all lists of so many of some numbers.
func lists(n int, numbers []int) [][]int {
	l := [][]int{nil}
	for range n {
		var longer [][]int
		for _, x := range l {
			for _, number := range numbers {
				longer = append(longer, append(slices.Clone(x), number))
			}
		}
		l = longer
	}
	return l
}

func TestTheGivenNumber(t *testing.T) {
	if api.MaxSlots != 96 {
		t.Errorf("the tests' forests are not of api's MaxSlots")
	}
}

// All forests of up to five places, each Up from one too low to one too high, with all numbers from two too low to two too high.
func TestAllSmallForests(t *testing.T) {
	for n := range 6 {
		good := 0
		for _, up := range lists(n, from(-3, n)) {
			if forest.Good(wood(up...)) {
				good++
			}
			checkAll(t, up, from(-3, n+1))
		}
		// So many are told by another rule: of k places that are filled there are (k+1) to the power k-1.
		if want := []int{1, 2, 6, 29, 212, 2117}[n]; good != want {
			t.Errorf("P10.1: of %d places %d forests are Good, want %d", n, good, want)
		}
	}
}

// farNumbers gives numbers that are no place: some with a place's bits in their low ones.
func farNumbers() []int {
	return []int{-3, -4, -96, -97, -1 << 8, 1<<8 - 1, 1 << 8, 1 << 16, 1 << 31, 1<<31 + 1, 1 << 32, 1<<32 + 1, 1<<32 - 1, 1<<32 - 2, 1 << 40, 1<<62 + 1, math.MaxInt, math.MaxInt - 1, -1 << 31, -1 << 32, 1 - 1<<32, math.MinInt, math.MinInt + 1}
}

// An Up that is none makes all not Good, wherever it stands.
func TestFarUps(t *testing.T) {
	for _, far := range farNumbers() {
		for _, up := range [][]int{{-1}, {-2}, {-1, 0}, {-1, 0, 1}, {2, -2, -1}, {-1, -1, -2, 0}} {
			for at := range up {
				other := slices.Clone(up)
				other[at] = far
				if forest.Good(wood(other...)) {
					t.Errorf("P10.1: Good(%d): true", other)
				}
				checkAll(t, other, from(-3, len(up)))
			}
		}
	}
}

// Numbers that are no place are answered as such, in each call, and are nothing to come of.
func TestFarPlaces(t *testing.T) {
	numbers := append(farNumbers(), from(-2, 6)...)
	for _, up := range [][]int{nil, {-1}, {-2}, {-1, 0, 1, -2}, {4, 3, -2, -1, 3}, {1, 0}} {
		checkAll(t, up, numbers)
	}
}

// rows gives long rows of n places: rising, falling, and by leaps.
func rows(n int) [][]int {
	rising, falling, leaps := make([]int, n), make([]int, n), make([]int, n)
	for i := range n {
		rising[i] = i - 1
		falling[i] = i + 1
	}
	if n > 0 {
		falling[n-1] = -1
	}
	// 37 is a prime, and divides no n that is asked for: so its leaps come through all places.
	at, before := 0, -1
	for range n {
		leaps[at] = before
		before, at = at, (at+37)%n
	}
	return [][]int{rising, falling, leaps}
}

func TestLongRows(t *testing.T) {
	for _, n := range []int{1, 2, 94, 95, 96, 97} {
		for _, up := range rows(n) {
			if forest.Good(wood(up...)) != (n <= 96) {
				t.Errorf("P10.1: Good of a row of %d places: %v", n, n > 96)
			}
			checkAll(t, up, []int{-1, 0, 1, 2, 47, n - 2, n - 1, n})
		}
	}
	end := rows(96)[0]
	if got := forest.Depth(wood(end...), 95); got != 95 {
		t.Errorf("P10.1: Depth at the end of a row of 96: %d", got)
	}
	if got := forest.Below(wood(end...), 0); !slices.Equal(got, from(1, 95)) {
		t.Errorf("P10.1: Below at the head of a row of 96: %d", got)
	}
	if got := forest.Order(wood(rows(96)[1]...)); len(got) != 96 || got[0] != 95 || got[95] != 0 {
		t.Errorf("P10.1: Order of a falling row of 96: %d", got)
	}
}

// A row that is closed to a round, at its head or further down, is not Good, and no call goes round for ever.
func TestRounds(t *testing.T) {
	for _, n := range []int{1, 2, 3, 4, 5, 50, 95, 96} {
		for _, row := range rows(n) {
			head := slices.Index(row, -1)
			for at := range n {
				up := slices.Clone(row)
				up[head] = at
				if forest.Good(wood(up...)) {
					t.Errorf("P10.1: Good of %d places, whose head came of %d: true", n, at)
				}
				checkAll(t, up, []int{head, at, n})
			}
		}
	}
	for _, up := range [][]int{{0}, {1, 0}, {1, 2, 0}, {-1, 1}, {-1, 2, 1}, {2, -1, 0}, {-2, 1}, {-1, 0, 3, 2}, {1, 1}, {0, 0}, {0, 0, 0}, {1, 2, 1}, {-1, 3, 1, 2}, {-1, 0, 1, 2, 6, 4, 5}, {4, -1, 1, 2, 0}} {
		if forest.Good(wood(up...)) {
			t.Errorf("P10.1: Good(%d): true", up)
		}
		checkAll(t, up, from(-3, len(up)))
	}
}

// Forests of many places in one kind: all empty, all of nothing, all of one, with one more than may be.
func TestManyPlaces(t *testing.T) {
	for _, n := range []int{0, 1, 95, 96, 97, 98, 255, 256, 257, 352, 1 << 16, 1<<16 + 1, 1 << 20} {
		ofOne := slices.Repeat([]int{0}, n)
		if n > 0 {
			ofOne[0] = -1
		}
		for _, up := range [][]int{slices.Repeat([]int{-2}, n), slices.Repeat([]int{-1}, n), ofOne} {
			if forest.Good(wood(up...)) != (n <= 96) {
				t.Errorf("P10.1: Good of %d places, %d: %v", n, short(up), n > 96)
			}
			checkAll(t, up, []int{-2, -1, 0, 1, n - 1, n})
		}
	}
	if got, ok := forest.Add(wood(slices.Repeat([]int{-2}, 96)...), 95, -1); !ok || len(got.Up) != 96 || got.Up[95] != -1 {
		t.Errorf("P10.1: Add at the last of as many places as may be: %d, %v", got.Up, ok)
	}
	if got, ok := forest.Add(wood(slices.Repeat([]int{-2}, 97)...), 0, -1); ok || got.Up != nil {
		t.Errorf("P10.1: Add with one place too many: %d, %v", got.Up, ok)
	}
}

// dice tells any numbers, the same ones in each run.
type dice struct{ word uint64 }

// below tells a number from 0 to n-1.
func (d *dice) below(n int) int {
	d.word ^= d.word << 13
	d.word ^= d.word >> 7
	d.word ^= d.word << 17
	return int((d.word >> 11) % uint64(n))
}

// shuffled tells the numbers from 0 to n-1 in any order.
func (d *dice) shuffled(n int) []int {
	l := from(0, n-1)
	for i := range l {
		j := i + d.below(n-i)
		l[i], l[j] = l[j], l[i]
	}
	return l
}

// grow gives a forest of n places, in which what came of another may be at a lower or a higher one.
func grow(r *dice, n, emptyIn10, rootsIn10 int) []int {
	up := slices.Repeat([]int{-2}, n)
	var filled []int
	for _, i := range r.shuffled(n) {
		switch {
		case r.below(10) < emptyIn10:
			continue
		case len(filled) == 0 || r.below(10) < rootsIn10:
			up[i] = -1
		default:
			// The late ones are taken more often: so there are long lines, too.
			up[i] = filled[max(r.below(len(filled)), r.below(len(filled)))]
		}
		filled = append(filled, i)
	}
	return up
}

func TestAnyForests(t *testing.T) {
	r := &dice{word: 88172645463325252}
	for round := range 400 {
		n := []int{6, 7, 12, 30, 96}[round%5]
		up := grow(r, n, round%4, round%3)
		checkAll(t, up, []int{-2, -1, r.below(n), r.below(n), r.below(n), r.below(n), n})
		other := slices.Clone(up)
		other[r.below(n)] = r.below(n)
		checkAll(t, other, []int{-1, r.below(n), r.below(n), r.below(n), n})
	}
}

// Long orders of calls, each on what the last one answered, held against the second telling all the while.
func TestTurnsInLongOrders(t *testing.T) {
	r := &dice{word: 1442695040888963407}
	for _, n := range []int{3, 8, 20} {
		f := forest.Forest{Up: slices.Repeat([]int{-2}, n)}
		for range 3000 {
			x := tell(slices.Clone(f.Up))
			a, b := r.below(n+2)-1, r.below(n+3)-2
			got, ok, want, call := forest.Forest{}, false, []int(nil), ""
			switch r.below(8) {
			default:
				got, ok = forest.Add(f, a, b)
				want, call = x.add(a, b), "Add"
			case 0:
				got, ok = forest.Drop(f, a)
				want, call = x.drop(a), "Drop"
			case 1, 2:
				got, ok = forest.Move(f, a, b)
				want, call = x.move(a, b), "Move"
			case 3:
				got, ok = forest.Prune(f, a)
				want, call = x.prune(a), "Prune"
			}
			checkForest(t, x, call, a, b, got, ok, want)
			if ok {
				f = got
			}
		}
	}
}

func TestGoodInNumbers(t *testing.T) {
	for _, c := range []struct {
		up   []int
		want bool
	}{
		{nil, true}, {[]int{}, true}, {[]int{-1}, true}, {[]int{-2}, true}, {[]int{-3}, false}, {[]int{0}, false}, {[]int{1}, false}, {[]int{-1, 0}, true}, {[]int{1, -1}, true}, {[]int{-1, -1}, true}, {[]int{-2, -1}, true},
		{[]int{-2, 0}, false}, {[]int{1, -2}, false}, {[]int{-1, 2}, false}, {[]int{-1, 1}, false}, {[]int{1, 0}, false}, {[]int{-1, -3}, false}, {[]int{-1, 0, 1}, true}, {[]int{2, 0, -1}, true}, {[]int{2, -2, -1}, true}, {[]int{1, 2, 0}, false}, {[]int{-1, 2, 1}, false}, {[]int{-1, 0, -2, 2}, false},
	} {
		if got := forest.Good(wood(c.up...)); got != c.want {
			t.Errorf("P10.1: Good(%d): %v", c.up, got)
		}
	}
}

// 3 came of nothing, 1 and 4 of 3, 0 and 6 of 4, 5 of 0; 7 of nothing; 2 is empty.
func family() forest.Forest { return wood(4, 3, -2, -1, 3, 0, 4, -1) }

func TestTellsInNumbers(t *testing.T) {
	if got := forest.Below(wood(-1, 0, 1), 0); !slices.Equal(got, []int{1, 2}) {
		t.Errorf("P10.1: Below of -1, 0, 1 at 0: %d, want 1, 2", got)
	}
	for _, c := range []struct {
		i, depth    int
		kids, below []int
	}{
		{0, 2, []int{5}, []int{5}}, {1, 1, nil, nil}, {2, -1, nil, nil}, {3, 0, []int{1, 4}, []int{0, 1, 4, 5, 6}}, {4, 1, []int{0, 6}, []int{0, 5, 6}}, {5, 3, nil, nil}, {6, 2, nil, nil}, {7, 0, nil, nil}, {8, -1, nil, nil}, {-1, -1, nil, nil}, {-2, -1, nil, nil}, {math.MaxInt, -1, nil, nil}, {math.MinInt, -1, nil, nil},
	} {
		f := family()
		if got := forest.Depth(f, c.i); got != c.depth {
			t.Errorf("P10.1: Depth at %d: %d, want %d", c.i, got, c.depth)
		}
		if got := forest.Kids(f, c.i); !slices.Equal(got, c.kids) {
			t.Errorf("P10.1: Kids at %d: %d, want %d", c.i, got, c.kids)
		}
		if got := forest.Below(f, c.i); !slices.Equal(got, c.below) {
			t.Errorf("P10.1: Below at %d: %d, want %d", c.i, got, c.below)
		}
	}
}

func TestOrderInNumbers(t *testing.T) {
	for _, c := range []struct{ up, want []int }{
		{nil, nil}, {[]int{-2, -2}, nil}, {[]int{-1}, []int{0}}, {[]int{-1, -1, -1}, []int{0, 1, 2}}, {[]int{-1, 0, 1}, []int{0, 1, 2}}, {[]int{1, 2, -1}, []int{2, 1, 0}}, {[]int{2, -1, -1}, []int{1, 2, 0}}, {[]int{-1, -1, 0}, []int{0, 2, 1}}, {[]int{-1, 0, 0, 1}, []int{0, 1, 3, 2}}, {[]int{3, 3, 0, -1}, []int{3, 0, 2, 1}}, {[]int{3, -2, -1, -1, 2, 0}, []int{2, 4, 3, 0, 5}}, {family().Up, []int{3, 1, 4, 0, 5, 6, 7}}, {[]int{0}, nil}, {[]int{-1, 2, 1}, nil}, {[]int{-1, 5}, nil},
	} {
		if got := forest.Order(wood(c.up...)); !slices.Equal(got, c.want) {
			t.Errorf("P10.1: Order of %d: %d, want %d", c.up, got, c.want)
		}
	}
}

// checkTurn holds a forest that is answered against one in numbers: none, if it is nil.
func checkTurn(t *testing.T, call string, a, b int, got forest.Forest, ok bool, want []int) {
	t.Helper()
	checkForest(t, tree{up: family().Up}, call, a, b, got, ok, want)
}

func TestAddInNumbers(t *testing.T) {
	for _, c := range []struct {
		i, up int
		want  []int
	}{
		{2, -1, []int{4, 3, -1, -1, 3, 0, 4, -1}}, {2, 3, []int{4, 3, 3, -1, 3, 0, 4, -1}}, {2, 5, []int{4, 3, 5, -1, 3, 0, 4, -1}}, {2, 7, []int{4, 3, 7, -1, 3, 0, 4, -1}},
		{2, 2, nil}, {2, -2, nil}, {2, -3, nil}, {2, 8, nil}, {2, math.MaxInt, nil}, {2, math.MinInt, nil}, {0, -1, nil}, {3, -1, nil}, {3, 3, nil}, {7, 3, nil}, {5, 0, nil}, {8, -1, nil}, {9, -1, nil}, {-1, -1, nil}, {-2, -1, nil}, {math.MaxInt, -1, nil}, {math.MinInt, -1, nil},
	} {
		got, ok := forest.Add(family(), c.i, c.up)
		checkTurn(t, "Add", c.i, c.up, got, ok, c.want)
	}
	if got, ok := forest.Add(wood(-2, -2), 0, 1); ok || got.Up != nil {
		t.Errorf("P10.1: Add of a place where nothing is: %d, %v", got.Up, ok)
	}
	if got, ok := forest.Add(wood(), 0, -1); ok || got.Up != nil {
		t.Errorf("P10.1: Add where no place is: %d, %v", got.Up, ok)
	}
}

func TestDropInNumbers(t *testing.T) {
	for _, c := range []struct {
		i    int
		want []int
	}{
		{4, []int{3, 3, -2, -1, -2, 0, 3, -1}}, {3, []int{4, -1, -2, -2, -1, 0, 4, -1}}, {0, []int{-2, 3, -2, -1, 3, 4, 4, -1}}, {5, []int{4, 3, -2, -1, 3, -2, 4, -1}}, {7, []int{4, 3, -2, -1, 3, 0, 4, -2}},
		{2, nil}, {8, nil}, {-1, nil}, {-2, nil}, {math.MaxInt, nil}, {math.MinInt, nil},
	} {
		got, ok := forest.Drop(family(), c.i)
		checkTurn(t, "Drop", c.i, 0, got, ok, c.want)
	}
}

func TestMoveInNumbers(t *testing.T) {
	for _, c := range []struct {
		from, to int
		want     []int
	}{
		{4, 2, []int{2, 3, 3, -1, -2, 0, 2, -1}}, {3, 2, []int{4, 2, -1, -2, 2, 0, 4, -1}}, {7, 2, []int{4, 3, -1, -1, 3, 0, 4, -2}}, {5, 2, []int{4, 3, 0, -1, 3, -2, 4, -1}}, {0, 2, []int{-2, 3, 4, -1, 3, 2, 4, -1}},
		{4, 4, nil}, {4, 1, nil}, {4, 0, nil}, {4, 5, nil}, {5, 4, nil}, {3, 7, nil}, {4, 8, nil}, {4, -1, nil}, {4, -2, nil}, {4, math.MaxInt, nil}, {2, 2, nil}, {2, 4, nil}, {8, 2, nil}, {9, 2, nil}, {-1, 2, nil}, {-2, 2, nil}, {math.MinInt, 2, nil},
	} {
		got, ok := forest.Move(family(), c.from, c.to)
		checkTurn(t, "Move", c.from, c.to, got, ok, c.want)
	}
	if got, ok := forest.Move(wood(-2, -1, -2), 0, 2); ok || got.Up != nil {
		t.Errorf("P10.1: Move of nothing to where nothing is: %d, %v", got.Up, ok)
	}
}

func TestPruneInNumbers(t *testing.T) {
	for _, c := range []struct {
		i    int
		want []int
	}{
		{4, []int{-2, 3, -2, -1, 3, -2, -2, -1}}, {3, []int{-2, -2, -2, -1, -2, -2, -2, -1}}, {0, []int{4, 3, -2, -1, 3, -2, 4, -1}}, {5, family().Up}, {1, family().Up}, {7, family().Up},
		{2, nil}, {8, nil}, {-1, nil}, {-2, nil}, {math.MaxInt, nil}, {math.MinInt, nil},
	} {
		got, ok := forest.Prune(family(), c.i)
		checkTurn(t, "Prune", c.i, 0, got, ok, c.want)
	}
}

// turns gives each call that answers a list, as one that answers nil where it is refused.
func turns() map[string]func(forest.Forest) []int {
	of := func(f forest.Forest, _ bool) []int { return f.Up }
	return map[string]func(forest.Forest) []int{
		"Kids":             func(f forest.Forest) []int { return forest.Kids(f, 3) },
		"Below":            func(f forest.Forest) []int { return forest.Below(f, 3) },
		"Order":            forest.Order,
		"Add of nothing":   func(f forest.Forest) []int { return of(forest.Add(f, 2, -1)) },
		"Add of one":       func(f forest.Forest) []int { return of(forest.Add(f, 2, 5)) },
		"Drop":             func(f forest.Forest) []int { return of(forest.Drop(f, 4)) },
		"Drop without kid": func(f forest.Forest) []int { return of(forest.Drop(f, 5)) },
		"Move":             func(f forest.Forest) []int { return of(forest.Move(f, 4, 2)) },
		"Prune":            func(f forest.Forest) []int { return of(forest.Prune(f, 4)) },
		"Prune of none":    func(f forest.Forest) []int { return of(forest.Prune(f, 5)) },
	}
}

// R4: what is handed in stays as it is, with the room behind it, and that room tells nothing.
func TestForestsHandedInStay(t *testing.T) {
	for _, behind := range [][]int{{-1, -1}, {3, 4}, {-2, 8}, {99, -99}} {
		room := append(family().Up, behind...)
		before := slices.Clone(room)
		f := forest.Forest{Up: room[:8]}
		if !forest.Good(f) || forest.Depth(f, 8) != -1 || forest.Depth(f, 5) != 3 {
			t.Errorf("R4: %d is told by what stands behind it, %d", f.Up, behind)
		}
		for name, call := range turns() {
			if got, want := call(f), call(family()); !slices.Equal(got, want) || len(want) == 0 {
				t.Errorf("R4: %s is told by what stands behind it, %d: %d, want %d", name, behind, got, want)
			}
			if !slices.Equal(room, before) || len(f.Up) != 8 {
				t.Fatalf("R4: %s changes %d to %d", name, before, room)
			}
		}
	}
}

// R4 and R5: an answer is new memory, spare room too, shares none with what is handed in or told before, and stays as it was.
func TestAnswersAreNewMemory(t *testing.T) {
	for name, call := range turns() {
		f := family()
		first, second := call(f), call(f)
		want := slices.Clone(first)
		for _, x := range first[len(first):cap(first)] {
			if x != 0 {
				t.Errorf("R4: spare room of %s holds %d", name, x)
			}
		}
		whole := first[:cap(first)]
		for at := range whole {
			whole[at] = 99
		}
		if third := call(f); !slices.Equal(f.Up, family().Up) || !slices.Equal(second, want) || !slices.Equal(third, want) {
			t.Errorf("R4: %s: answers share memory: %d; %d; %d", name, f.Up, second, third)
		}
		for at := range f.Up {
			f.Up[at] = 77
		}
		if !slices.Equal(second, want) || !slices.Equal(call(family()), want) {
			t.Errorf("R4: %s: its answer is told by what was handed in: %d", name, second)
		}
	}
}

// R4: nil and an empty list are one.
func TestNoPlacesAtAll(t *testing.T) {
	for _, up := range [][]int{nil, {}, family().Up[:0]} {
		if !forest.Good(forest.Forest{Up: up}) {
			t.Errorf("P10.1: Good of no places: false")
		}
		for name, call := range turns() {
			if got := call(forest.Forest{Up: up}); len(got) != 0 {
				t.Errorf("P10.1: %s of no places: %d", name, got)
			}
		}
	}
}
