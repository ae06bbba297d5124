package wheel_test

import (
	"cmp"
	"math"
	"slices"
	"strconv"
	"testing"

	"siphon/api"
	"siphon/wheel"
)

// made is a wheel with room for so many.
func made[K comparable](t *testing.T, room int) *wheel.Wheel[K] {
	t.Helper()
	w, e := wheel.New[K](room)
	if w == nil || e != api.OK {
		t.Fatalf("room %d: %v, %d", room, w, e)
	}
	return w
}

// arms tells that Arm must answer so.
func arms[K comparable](t *testing.T, w *wheel.Wheel[K], key K, at int, want api.Errno) {
	t.Helper()
	if e := w.Arm(key, at); e != want {
		t.Errorf("Arm of %v, %d: %d, not %d", key, at, e, want)
	}
}

// stands tells that a key's timer must be due then.
func stands[K comparable](t *testing.T, w *wheel.Wheel[K], key K, want int) {
	t.Helper()
	if at, has := w.At(key); at != want || !has {
		t.Errorf("At of %v: %d, %v, not %d", key, at, has, want)
	}
}

// lacks tells of each key that it must have no timer.
func lacks[K comparable](t *testing.T, w *wheel.Wheel[K], keys ...K) {
	t.Helper()
	for _, key := range keys {
		if at, has := w.At(key); at != 0 || has {
			t.Errorf("At of %v: %d, %v", key, at, has)
		}
	}
}

// due tells that just these keys must be due at now, in this order.
func due[K comparable](t *testing.T, w *wheel.Wheel[K], now int, want ...K) {
	t.Helper()
	if l := w.Due(now); !slices.Equal(l, want) {
		t.Errorf("Due of %d: %v, not %v", now, l, want)
	}
}

// counts tells how many timers there must be, and when the first one must be due.
func counts[K comparable](t *testing.T, w *wheel.Wheel[K], n int, next int) {
	t.Helper()
	if w.Len() != n {
		t.Errorf("Len: %d, not %d", w.Len(), n)
	}
	if at, has := w.Next(); at != next || has != (n > 0) {
		t.Errorf("Next: %d, %v, not %d", at, has, next)
	}
}

// empty tells that a wheel must have no timers.
func empty[K comparable](t *testing.T, w *wheel.Wheel[K]) {
	t.Helper()
	counts(t, w, 0, 0)
	due(t, w, math.MaxInt)
}

// P10.1, R3: room of 1 to 4096, and none else.
func TestNew(t *testing.T) {
	for _, room := range []int{1, 2, 100, 4095, 4096} {
		empty(t, made[string](t, room))
	}
	for _, room := range []int{0, -1, 4097, 5000, math.MinInt, math.MaxInt, 1 << 32} {
		if w, e := wheel.New[string](room); w != nil || e != api.ErrArg {
			t.Errorf("room %d: %v, %d", room, w, e)
		}
	}
}

// P10.1: all calls of a nil wheel.
func TestNilWheel(t *testing.T) {
	var w *wheel.Wheel[string]
	for _, at := range []int{0, 5, -1, math.MinInt, math.MaxInt} {
		arms(t, w, "a", at, api.ErrFull)
		due(t, w, at)
	}
	if w.Cancel("a") {
		t.Error("cancelled")
	}
	lacks(t, w, "a", "")
	empty(t, w)
}

// R1: a wheel that New did not make has no room.
func TestWheelOfNoughts(t *testing.T) {
	var w wheel.Wheel[any]
	arms(t, &w, any("a"), 5, api.ErrFull)
	arms(t, &w, any("a"), -1, api.ErrArg)
	if w.Cancel("a") {
		t.Error("cancelled")
	}
	lacks(t, &w, any("a"))
	empty(t, &w)
}

// P10.2, P10.3: the document's example.
func TestTheDocumentsExample(t *testing.T) {
	w := made[string](t, 3)
	arms(t, w, "a", 5, api.OK)
	arms(t, w, "b", 3, api.OK)
	arms(t, w, "c", 5, api.OK)
	arms(t, w, "a", 5, api.OK)
	due(t, w, 4, "b")
	due(t, w, 9, "c", "a")
	empty(t, w)
}

// P10.2: at of 0 and the greatest is well; below 0 it is told, and nothing is changed.
func TestArmTellsWrongTimes(t *testing.T) {
	w := made[string](t, 2)
	arms(t, w, "a", 0, api.OK)
	stands(t, w, "a", 0)
	counts(t, w, 1, 0)
	arms(t, w, "b", math.MaxInt, api.OK)
	stands(t, w, "b", math.MaxInt)
	for _, at := range []int{-1, -2, math.MinInt} {
		arms(t, w, "a", at, api.ErrArg)
		arms(t, w, "c", at, api.ErrArg)
	}
	stands(t, w, "a", 0)
	lacks(t, w, "c")
	counts(t, w, 2, 0)
	due(t, w, -1)
	due(t, w, math.MinInt)
	due(t, w, 0, "a")
	due(t, w, math.MaxInt-1)
	due(t, w, math.MaxInt, "b")
}

// P10.2: an Arm that is refused doesn't put a timer behind the others.
func TestArmThatIsRefusedChangesNoOrder(t *testing.T) {
	w := made[string](t, 2)
	arms(t, w, "a", 5, api.OK)
	arms(t, w, "b", 5, api.OK)
	arms(t, w, "a", -1, api.ErrArg)
	arms(t, w, "c", 5, api.ErrFull)
	due(t, w, 5, "a", "b")
}

// P10.2, R2: a full wheel arms a key that it has, and none that it has not; a wrong time is told first.
func TestFullWheel(t *testing.T) {
	for _, room := range []int{1, 2, 7, 4095, 4096} {
		w := made[int](t, room)
		for key := range room {
			arms(t, w, key, key+1, api.OK)
		}
		counts(t, w, room, 1)
		for _, key := range []int{room, -1, math.MaxInt} {
			arms(t, w, key, 1, api.ErrFull)
			arms(t, w, key, 0, api.ErrFull)
			arms(t, w, key, -1, api.ErrArg)
			lacks(t, w, key)
		}
		for key := range room {
			arms(t, w, key, key+2, api.OK)
			stands(t, w, key, key+2)
		}
		counts(t, w, room, 2)
		if !w.Cancel(0) {
			t.Error("not cancelled")
		}
		arms(t, w, room, 9, api.OK)
		arms(t, w, 0, 9, api.ErrFull)
		first := 3
		if room == 1 {
			first = 9
		}
		counts(t, w, room, first)
	}
}

// P10.2, P10.3: what is due makes room.
func TestDueMakesRoom(t *testing.T) {
	w := made[string](t, 2)
	arms(t, w, "a", 1, api.OK)
	arms(t, w, "b", 2, api.OK)
	arms(t, w, "c", 3, api.ErrFull)
	due(t, w, 1, "a")
	arms(t, w, "c", 3, api.OK)
	arms(t, w, "a", 3, api.ErrFull)
	due(t, w, 3, "b", "c")
	arms(t, w, "a", 3, api.OK)
	due(t, w, 3, "a")
	empty(t, w)
}

// P10.2: Cancel tells whether there was a timer, and there is none then.
func TestCancel(t *testing.T) {
	w := made[string](t, 3)
	if w.Cancel("a") || w.Cancel("") {
		t.Error("there is none")
	}
	arms(t, w, "a", 5, api.OK)
	arms(t, w, "b", 4, api.OK)
	if w.Cancel("c") || !w.Cancel("b") || w.Cancel("b") {
		t.Error("b alone is there, and once")
	}
	lacks(t, w, "b", "c")
	stands(t, w, "a", 5)
	counts(t, w, 1, 5)
	arms(t, w, "b", 5, api.OK)
	due(t, w, 5, "a", "b")
	if w.Cancel("a") || w.Cancel("b") {
		t.Error("they were due")
	}
	empty(t, w)
}

// P10.2: a key that was cancelled and is armed again stands behind all others.
func TestCancelledKeysAreArmedBehind(t *testing.T) {
	w := made[string](t, 3)
	arms(t, w, "a", 5, api.OK)
	arms(t, w, "b", 5, api.OK)
	w.Cancel("a")
	arms(t, w, "a", 5, api.OK)
	arms(t, w, "c", 5, api.OK)
	due(t, w, 5, "b", "a", "c")
}

// P10.2, P10.3: a key armed again, at the same time, at a later one and at one ahead, has one timer, behind all others.
func TestKeysArmedAgain(t *testing.T) {
	for _, c := range []struct {
		at   int
		want []string
	}{{5, []string{"b", "c", "a"}}, {6, []string{"b", "c", "a"}}, {4, []string{"a", "b", "c"}}} {
		w := made[string](t, 3)
		for _, key := range []string{"a", "b", "c"} {
			arms(t, w, key, 5, api.OK)
		}
		arms(t, w, "a", c.at, api.OK)
		stands(t, w, "a", c.at)
		counts(t, w, 3, min(5, c.at))
		due(t, w, 9, c.want...)
		empty(t, w)
	}
	w := made[string](t, 2)
	arms(t, w, "a", 5, api.OK)
	arms(t, w, "a", 8, api.OK)
	due(t, w, 7)
	arms(t, w, "b", 8, api.OK)
	arms(t, w, "a", 9, api.OK)
	arms(t, w, "a", 8, api.OK)
	due(t, w, 8, "b", "a")
}

// P10.3: at a timer's time it is due, and behind it, but not ahead of it.
func TestDueAroundATimersTime(t *testing.T) {
	for _, at := range []int{0, 1, 5, 1000, 1 << 40} {
		w := made[string](t, 1)
		arms(t, w, "a", at, api.OK)
		due(t, w, at-1)
		stands(t, w, "a", at)
		counts(t, w, 1, at)
		due(t, w, at, "a")
		due(t, w, at)
		lacks(t, w, "a")
		empty(t, w)
		arms(t, w, "a", at, api.OK)
		due(t, w, at+1, "a")
		empty(t, w)
	}
}

// P10.3: what is due at once stands in the order of arming, whatever the keys are; of others the time counts.
func TestManyAtOnce(t *testing.T) {
	w := made[int](t, 4096)
	var want []int
	for i := range 4096 {
		key := i * 2731 % 4096
		arms(t, w, key, 7, api.OK)
		want = append(want, key)
	}
	due(t, w, 7, want...)
	for i := range 4096 {
		key := i * 2731 % 4096
		arms(t, w, key, key/16, api.OK)
		want[i] = key
	}
	slices.SortStableFunc(want, func(a, b int) int { return cmp.Compare(a/16, b/16) })
	due(t, w, 100, want[:101*16]...)
	counts(t, w, 4096-101*16, 101)
	due(t, w, 4096, want[101*16:]...)
	empty(t, w)
}

// P10.3: nothing is due of an empty wheel, and Due twice tells nothing more.
func TestDueOfNothing(t *testing.T) {
	w := made[string](t, 1)
	for _, now := range []int{-1, 0, 1, math.MinInt, math.MaxInt} {
		due(t, w, now)
	}
	arms(t, w, "a", 3, api.OK)
	due(t, w, 3, "a")
	due(t, w, 3)
	due(t, w, 9)
}

// P10.4: what is due later is told later, and a time that has gone by is told at once.
func TestWhatIsDueLaterIsToldLater(t *testing.T) {
	w := made[int](t, 100)
	for key := range 100 {
		arms(t, w, key, key*37%100, api.OK)
	}
	told := 0
	for now := range 100 {
		for _, key := range w.Due(now) {
			if key*37%100 != now {
				t.Errorf("%d at %d", key, now)
			}
			told++
		}
		if next, has := w.Next(); has != (now < 99) || has && next != now+1 {
			t.Errorf("Next at %d: %d, %v", now, next, has)
		}
	}
	if told != 100 {
		t.Errorf("%d were told", told)
	}
	arms(t, w, 1, 5, api.OK)
	due(t, w, 4)
	due(t, w, 100, 1)
}

// P10.4: wheels side by side know nothing of one another.
func TestWheelsSideBySide(t *testing.T) {
	v, w := made[string](t, 1), made[string](t, 2)
	arms(t, v, "a", 5, api.OK)
	lacks(t, w, "a")
	empty(t, w)
	arms(t, w, "a", 7, api.OK)
	arms(t, w, "b", 6, api.OK)
	arms(t, v, "b", 6, api.ErrFull)
	stands(t, v, "a", 5)
	stands(t, w, "a", 7)
	if !w.Cancel("a") {
		t.Error("not cancelled")
	}
	counts(t, v, 1, 5)
	counts(t, w, 1, 6)
	due(t, w, 9, "b")
	due(t, v, 9, "a")
	other := made[int](t, 1)
	arms(t, other, 1, 1, api.OK)
	empty(t, v)
	due(t, other, 1, 1)
}

// R5: each answer of Due is a list of its own, its spare room too.
func TestDueAnswersNewMemory(t *testing.T) {
	w := made[string](t, 9)
	round := func(keys ...string) []string {
		for _, key := range keys {
			arms(t, w, key, 1, api.OK)
		}
		return w.Due(1)
	}
	first := round("a", "b", "c")
	second := round("d", "e", "f")
	_ = append(first, "x", "y")
	first[0], first[1], first[2] = "x", "y", "z"
	_ = append(second[:1], "w")
	if third := round("a", "b", "c"); !slices.Equal(third, []string{"a", "b", "c"}) {
		t.Errorf("%v", third)
	}
	if !slices.Equal(first, []string{"x", "y", "z"}) || !slices.Equal(second, []string{"d", "w", "f"}) {
		t.Errorf("%v, %v", first, second)
	}
	arms(t, w, "g", 1, api.OK)
	arms(t, w, "h", 2, api.OK)
	l := w.Due(1)
	_ = append(l, "x", "y", "z")
	l[0] = "x"
	due(t, w, 2, "h")
}

// place is a key of several parts.
type place struct {
	port  int
	group api.Addr
}

// P10.2: keys of every kind that can be compared.
func TestKeysOfOtherKinds(t *testing.T) {
	p := made[place](t, 3)
	arms(t, p, place{1, "abcd"}, 2, api.OK)
	arms(t, p, place{1, "efgh"}, 1, api.OK)
	arms(t, p, place{2, "abcd"}, 1, api.OK)
	arms(t, p, place{1, "abcd"}, 1, api.OK)
	arms(t, p, place{}, 1, api.ErrFull)
	due(t, p, 1, place{1, "efgh"}, place{2, "abcd"}, place{1, "abcd"})
	a := made[[2]string](t, 2)
	arms(t, a, [2]string{"a", "b"}, 1, api.OK)
	arms(t, a, [2]string{"b", "a"}, 0, api.OK)
	stands(t, a, [2]string{"a", "b"}, 1)
	due(t, a, 1, [2]string{"b", "a"}, [2]string{"a", "b"})
	b := made[bool](t, 3)
	arms(t, b, true, 1, api.OK)
	arms(t, b, false, 1, api.OK)
	arms(t, b, true, 1, api.OK)
	due(t, b, 1, false, true)
	x, y := 1, 1
	c := made[*int](t, 2)
	arms(t, c, &x, 1, api.OK)
	arms(t, c, &y, 1, api.OK)
	arms(t, c, nil, 1, api.ErrFull)
	due(t, c, 1, &x, &y)
	u := made[struct{}](t, 1)
	arms(t, u, struct{}{}, 4, api.OK)
	arms(t, u, struct{}{}, 3, api.OK)
	due(t, u, 3, struct{}{})
	empty(t, u)
}

// R1: a key in an interface whose kind can't be compared is refused, and no call panics.
func TestKeysThatCantBeCompared(t *testing.T) {
	w := made[any](t, 3)
	arms(t, w, any(1), 5, api.OK)
	arms(t, w, any("1"), 5, api.OK)
	for _, key := range []any{[]int{1}, map[string]int{}, func() {}, [1][]int{}} {
		if e := w.Arm(key, 5); e != api.ErrArg {
			t.Errorf("%d", e)
		}
		if at, has := w.At(key); at != 0 || has || w.Cancel(key) {
			t.Errorf("%d, %v", at, has)
		}
	}
	arms(t, w, nil, 5, api.OK)
	arms(t, w, any(2), 5, api.ErrFull)
	if e := w.Arm([]int{1}, 5); e != api.ErrArg {
		t.Errorf("%d", e)
	}
	counts(t, w, 3, 5)
	due(t, w, 5, any(1), any("1"), nil)
	var none *wheel.Wheel[any]
	if e := none.Arm([]int{1}, 5); e != api.ErrFull {
		t.Errorf("%d", e)
	}
}

// P10.3: a key that does not equal itself is due as others are, once.
func TestKeysThatDontEqualThemselves(t *testing.T) {
	w := made[float64](t, 3)
	arms(t, w, math.NaN(), 5, api.OK)
	arms(t, w, 2.5, 5, api.OK)
	arms(t, w, math.NaN(), 6, api.OK)
	arms(t, w, math.NaN(), 4, api.ErrFull)
	counts(t, w, 3, 5)
	lacks(t, w, math.NaN())
	if l := w.Due(5); len(l) != 2 || l[0] == l[0] || l[1] != 2.5 {
		t.Errorf("%v", l)
	}
	counts(t, w, 1, 6)
	if l := w.Due(6); len(l) != 1 || l[0] == l[0] {
		t.Errorf("%v", l)
	}
	empty(t, w)
}

// model is a wheel that is kept in the order of arming, as the document's words say it.
type model struct {
	room int
	keys []string
	at   []int
}

func (m *model) take(key string) bool {
	i := slices.Index(m.keys, key)
	if i < 0 {
		return false
	}
	m.keys = slices.Delete(m.keys, i, i+1)
	m.at = slices.Delete(m.at, i, i+1)
	return true
}

func (m *model) arm(key string, at int) api.Errno {
	if at < 0 {
		return api.ErrArg
	}
	if !slices.Contains(m.keys, key) && len(m.keys) == m.room {
		return api.ErrFull
	}
	m.take(key)
	m.keys, m.at = append(m.keys, key), append(m.at, at)
	return api.OK
}

func (m *model) due(now int) []string {
	var out []string
	for at := 0; at <= now; at++ {
		for _, key := range slices.Clone(m.keys) {
			if m.at[slices.Index(m.keys, key)] == at {
				out = append(out, key)
				m.take(key)
			}
		}
	}
	return out
}

// P10.2, P10.3, R6: whatever is done, in whatever order, the wheel answers as the model does.
func TestWheelAsTheModel(t *testing.T) {
	seed := uint32(10)
	random := func(n int) int {
		seed = seed*1664525 + 1013904223
		return int(seed>>8) % n
	}
	for range 60 {
		room := 1 + random(12)
		w, m, now := made[string](t, room), &model{room: room}, 0
		for range 200 {
			key := strconv.Itoa(random(16))
			switch random(6) {
			case 0, 1, 2:
				at := now + random(12) - 2
				arms(t, w, key, at, m.arm(key, at))
			case 3:
				if is := w.Cancel(key); is != m.take(key) {
					t.Errorf("Cancel of %s: %v", key, is)
				}
			case 4:
				now += random(3)
				due(t, w, now, m.due(now)...)
			case 5:
				due(t, w, now-3, m.due(now-3)...)
			}
			next := 0
			if len(m.at) > 0 {
				next = slices.Min(m.at)
			}
			counts(t, w, len(m.keys), next)
			if i := slices.Index(m.keys, key); i < 0 {
				lacks(t, w, key)
			} else {
				stands(t, w, key, m.at[i])
			}
		}
	}
}
