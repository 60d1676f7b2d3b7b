package mapper

import (
	"math"
	"math/rand"
	"slices"
	"strconv"
	"strings"
	"testing"

	"volumegroup/api"
	"volumegroup/block"
	"volumegroup/disk"
)

func span(t *testing.T, n int) (*disk.Array, block.Device) {
	t.Helper()
	a, e := disk.New([]int{n})
	if e != api.OK {
		t.Fatal(e)
	}
	x, _ := block.Span(a, 0, 0, n)
	return a, x
}

func is(t *testing.T, e, want api.Errno, what string) {
	t.Helper()
	if e != want {
		t.Errorf("%s: %d, not %d", what, e, want)
	}
}

func on(start, length int, name string, offset int) api.Target {
	return api.Target{Start: start, Length: length, On: name, Offset: offset}
}

func load(l ...api.Target) []api.Target { return l }

// device makes a device with a live table.
func device(t *testing.T, m *Mapper, name string, l ...api.Target) {
	t.Helper()
	is(t, m.Create(name), api.OK, "Create "+name)
	exchange(t, m, name, l...)
}

// exchange gives a device another live table.
func exchange(t *testing.T, m *Mapper, name string, l ...api.Target) {
	t.Helper()
	is(t, m.Load(name, l), api.OK, "Load "+name)
	is(t, m.Suspend(name), api.OK, "Suspend "+name)
	is(t, m.Resume(name), api.OK, "Resume "+name)
}

func do(t *testing.T, m *Mapper, name string, task api.Task) api.Answer {
	t.Helper()
	a, e := m.Do(name, task)
	is(t, e, api.OK, "Do "+name)
	return a
}

func reading(at int) api.Task { return api.Task{Kind: api.TaskRead, At: at} }

func writing(at int, v uint64) api.Task {
	return api.Task{Kind: api.TaskWrite, At: at, Value: v}
}

func flushing() api.Task { return api.Task{Kind: api.TaskFlush} }

func done(v uint64, e api.Errno) api.Answer { return api.Answer{Done: true, Value: v, Error: e} }

// small is a mapper with a base b of 8 sectors and a device d over the sectors 4 to 7 of it.
func small(t *testing.T) (*disk.Array, *Mapper) {
	a, x := span(t, 8)
	m := New()
	is(t, m.Base("b", x), api.OK, "Base")
	device(t, m, "d", on(0, 4, "b", 4))
	return a, m
}

// P23.1
func TestNames(t *testing.T) {
	_, x := span(t, 4)
	m := New()
	long := strings.Repeat("x", 40)
	for i, c := range []struct{ got, want api.Errno }{
		{m.Base("", x), api.ErrName}, {m.Create(""), api.ErrName}, {m.Create(long + "x"), api.ErrName}, {m.Base(long, x), api.OK}, {m.Create(long), api.ErrTwice}, {m.Base(long, x), api.ErrTwice}, {m.Create("a b"), api.OK},
		{m.Remove("zz"), api.ErrNone}, {m.Rename("zz", ""), api.ErrNone}, {m.Rename(long, "q"), api.ErrNone}, {m.Rename("a b", ""), api.ErrName}, {m.Rename("a b", long+"x"), api.ErrName}, {m.Rename("a b", long), api.ErrTwice}, {m.Rename("a b", "a b"), api.ErrTwice}, {m.Rename("a b", "c"), api.OK}, {m.Remove("a b"), api.ErrNone},
		{m.Load("c", load(on(0, 2, long, 0))), api.OK}, {m.Remove(long), api.ErrUse}, {m.Unload("c"), api.OK}, {m.Remove(long), api.OK}, {m.Remove("c"), api.OK},
	} {
		if c.got != c.want {
			t.Errorf("call %d: %d, not %d", i, c.got, c.want)
		}
	}
	for i := range 256 {
		is(t, m.Create("n"+strconv.Itoa(i)), api.OK, "Create")
	}
	is(t, m.Create("n"), api.ErrLimit, "257 names")
	is(t, m.Create("n5"), api.ErrTwice, "twice ahead of the limit")
	is(t, m.Remove("n5"), api.OK, "Remove")
	is(t, m.Base("n", x), api.OK, "256 names")
}

func TestRenameUsed(t *testing.T) {
	_, m := small(t)
	device(t, m, "top", on(0, 2, "d", 1))
	is(t, m.Load("top", load(on(0, 3, "d", 0))), api.OK, "Load")
	is(t, m.Rename("d", "e"), api.OK, "Rename")
	s, _ := m.Status("top")
	if s.Live[0].On != "e" || s.Inactive[0].On != "e" {
		t.Error("tables use the new name")
	}
	if !slices.Equal(m.Names(), []string{"b", "e", "top"}) {
		t.Errorf("Names: %v", m.Names())
	}
	do(t, m, "top", writing(0, 5))
	if a := do(t, m, "e", reading(1)); a != done(5, api.OK) {
		t.Error("a request behind Rename")
	}
	is(t, m.Remove("e"), api.ErrUse, "Remove of what is used")
}

func TestRemoveWaiting(t *testing.T) {
	_, m := small(t)
	device(t, m, "top", on(0, 2, "d", 1))
	m.Suspend("d")
	do(t, m, "top", reading(0))
	is(t, m.Remove("top"), api.ErrState, "tasks that were given to it wait elsewhere")
	is(t, m.Remove("d"), api.ErrUse, "use ahead of state")
	m.Resume("d")
	is(t, m.Remove("top"), api.OK, "Remove")
	m.Suspend("d")
	do(t, m, "d", reading(0))
	is(t, m.Remove("d"), api.ErrState, "tasks wait for it")
}

// P23.2
func TestLoad(t *testing.T) {
	_, m := small(t)
	m.Create("e")
	m.Create("f")
	is(t, m.Load("e", load(on(0, 4, "d", 0))), api.OK, "Load e")
	is(t, m.Load("f", nil), api.OK, "an empty table")
	for i, c := range []struct {
		name string
		l    []api.Target
		want api.Errno
	}{
		{"zz", load(on(1, 1, "", 0)), api.ErrNone}, {"b", nil, api.ErrNone}, {"f", load(on(1, 1, "zz", 0)), api.ErrForm}, {"f", load(on(0, 1, "f", 0), on(1, 9, "b", 0), on(10, 1, "zz", 0)), api.ErrNone}, {"d", load(on(0, 1, "d", 0)), api.ErrCycle}, {"d", load(on(0, 9, "b", 0), on(9, 1, "e", 0)), api.ErrCycle},
		{"f", load(on(0, 9, "b", 0)), api.ErrRange}, {"f", load(on(0, 1, "b", 8)), api.ErrRange}, {"f", load(on(0, 4, "d", 1)), api.ErrRange}, {"f", load(on(0, 1, "e", 0)), api.ErrRange}, {"f", load(on(0, 4, "d", 0), on(4, 8, "b", 0)), api.OK},
	} {
		if e := m.Load(c.name, c.l); e != c.want {
			t.Errorf("Load %d: %d, not %d", i, e, c.want)
		}
	}
	s, _ := m.Status("f")
	if !s.HasNew || s.HasLive || len(s.Inactive) != 2 {
		t.Error("the table stands in place of the one ahead of it")
	}
	s.Inactive[0].On = "x"
	if s, _ := m.Status("f"); s.Inactive[0].On != "d" {
		t.Error("Status shares memory")
	}
	is(t, m.Unload("f"), api.OK, "Unload")
	is(t, m.Unload("f"), api.ErrState, "Unload again")
	is(t, m.Unload("b"), api.ErrNone, "Unload of a base")
}

// P23.3
func TestSuspendResume(t *testing.T) {
	a, m := small(t)
	is(t, m.Suspend("b"), api.ErrNone, "Suspend of a base")
	is(t, m.Resume("b"), api.ErrNone, "Resume of a base")
	is(t, m.Resume("d"), api.ErrState, "Resume of a device that is not suspended")
	do(t, m, "d", writing(0, 1))
	is(t, m.Suspend("d"), api.OK, "Suspend")
	if a.Unflushed() != 0 {
		t.Error("Suspend flushes")
	}
	is(t, m.Suspend("d"), api.ErrState, "Suspend again")
	is(t, m.Resume("d"), api.OK, "Resume with the live table")
	m.Create("e")
	is(t, m.Suspend("e"), api.OK, "Suspend without tables")
	is(t, m.Resume("e"), api.ErrState, "Resume without tables")
	is(t, m.Load("e", load(on(0, 2, "d", 2))), api.OK, "Load")
	is(t, m.Resume("e"), api.OK, "Resume with a new table")
	a.SetMissing(0, true)
	is(t, m.Suspend("e"), api.ErrMissing, "an error of the flush")
	if s, _ := m.Status("e"); s.Suspended {
		t.Error("suspended behind an error")
	}
	a.SetMissing(0, false)
	m.Suspend("d")
	is(t, m.Suspend("e"), api.ErrState, "a flush that would have to wait")
	m.Load("d", load(on(0, 3, "b", 0)))
	is(t, m.Resume("d"), api.ErrRange, "a table that is too short for another device")
	if s, _ := m.Status("d"); !s.Suspended || !s.HasNew || s.Live[0].Length != 4 {
		t.Error("Resume with an error changes something")
	}
	m.Load("d", load(on(0, 5, "b", 0)))
	is(t, m.Resume("d"), api.OK, "a table that is long enough")
	// What is below has become shorter since the table was loaded.
	m.Load("e", load(on(0, 5, "d", 0)))
	m.Suspend("e")
	m.Suspend("d")
	m.Load("d", load(on(0, 4, "b", 0)))
	is(t, m.Resume("d"), api.ErrRange, "shorter than an inactive table needs")
	m.Unload("e")
	is(t, m.Resume("d"), api.OK, "long enough for the live table")
	is(t, m.Load("e", load(on(0, 5, "d", 0))), api.ErrRange, "longer than what is below")
}

// P23.4
func TestDo(t *testing.T) {
	a, m := small(t)
	device(t, m, "x", on(0, 2, "d", 2), api.Target{Start: 2, Length: 1, Fail: true}, api.Target{Start: 3, Length: 1})
	m.Create("none")
	for i, c := range []struct {
		name string
		task api.Task
		want api.Errno
	}{{"zz", api.Task{}, api.ErrNone}, {"none", api.Task{}, api.ErrKind}, {"x", api.Task{Kind: 4}, api.ErrKind}, {"none", reading(0), api.ErrState}, {"none", flushing(), api.ErrState}} {
		if x, e := m.Do(c.name, c.task); e != c.want || x != (api.Answer{}) {
			t.Errorf("Do %d: %d", i, e)
		}
	}
	for i, c := range []struct {
		name string
		task api.Task
		want api.Answer
	}{
		{"x", writing(1, 7), done(0, 0)}, {"x", reading(1), done(7, 0)}, {"d", reading(3), done(7, 0)}, {"b", reading(7), done(7, 0)}, {"b", writing(8, 1), done(0, api.ErrRange)}, {"b", flushing(), done(0, 0)},
		{"x", reading(2), done(0, api.ErrBad)}, {"x", writing(2, 1), done(0, api.ErrBad)}, {"x", reading(3), done(0, 0)}, {"x", writing(3, 1), done(0, api.ErrReadOnly)}, {"x", reading(4), done(0, api.ErrRange)}, {"x", writing(-1, 1), done(0, api.ErrRange)}, {"x", reading(math.MaxInt), done(0, api.ErrRange)},
	} {
		if got := do(t, m, c.name, c.task); got != c.want {
			t.Errorf("task %d: %v", i, got)
		}
	}
	m.Suspend("d")
	for i, c := range []struct {
		name string
		task api.Task
		want api.Answer
	}{
		{"x", reading(0), api.Answer{Ticket: 1}}, {"x", reading(3), done(0, 0)}, {"x", reading(2), done(0, api.ErrBad)}, {"x", reading(9), done(0, api.ErrRange)}, {"d", reading(9), api.Answer{Ticket: 2}}, {"x", flushing(), api.Answer{Ticket: 3}}, {"b", reading(7), done(7, 0)},
	} {
		if got := do(t, m, c.name, c.task); got != c.want {
			t.Errorf("task %d with a suspended device: %v", i, got)
		}
	}
	m.Suspend("none")
	if got := do(t, m, "none", reading(0)); got != (api.Answer{Ticket: 4}) {
		t.Error("a suspended device without a live table")
	}
	if s, _ := m.Status("d"); s.Waiting != 3 || s.Users != 1 {
		t.Errorf("Status: %v", s)
	}
	a.SetBad(0, 6, true)
	m.Resume("d")
	if l := m.Answers(); !slices.Equal(l, []api.Answer{{Done: true, Ticket: 1, Error: api.ErrBad}, {Done: true, Ticket: 2, Error: api.ErrRange}, {Done: true, Ticket: 3}}) {
		t.Errorf("Answers: %v", l)
	}
}

// noting is a base that notes its flushes.
type noting struct {
	block.Device
	name  string
	log   *[]string
	error api.Errno
}

func (n noting) Flush() api.Errno {
	*n.log = append(*n.log, n.name)
	return n.error
}

func TestFlush(t *testing.T) {
	_, x := span(t, 8)
	m := New()
	var log []string
	m.Base("b1", noting{x, "b1", &log, api.OK})
	m.Base("b2", noting{x, "b2", &log, api.ErrBad})
	m.Base("b3", noting{x, "b3", &log, api.ErrMissing})
	device := func(name string, l ...api.Target) {
		m.Create(name)
		m.Load(name, l)
		m.Suspend(name)
		is(t, m.Resume(name), api.OK, "Resume "+name)
	}
	device("p", on(0, 1, "b3", 0), on(1, 1, "b1", 0), on(2, 1, "b3", 5))
	device("q", on(0, 1, "b2", 0), on(1, 1, "p", 0))
	device("r", on(0, 1, "q", 0), on(1, 1, "p", 1), on(2, 1, "b1", 1))
	log = nil
	if got := do(t, m, "r", flushing()); got != done(0, api.ErrBad) || !slices.Equal(log, []string{"b2", "b3", "b1"}) {
		t.Errorf("flushes %v, %v", log, got)
	}
	// Two devices are suspended: the first one on the way counts.
	device("s", on(0, 1, "b1", 0))
	device("u", on(0, 1, "b1", 0))
	device("v", on(0, 1, "b1", 7), on(1, 1, "u", 0), on(2, 1, "s", 0))
	m.Suspend("s")
	m.Suspend("u")
	do(t, m, "v", flushing())
	if s, _ := m.Status("u"); s.Waiting != 1 {
		t.Error("a flush waits depth first, in the order of the targets")
	}
	m.Resume("u")
	if s, _ := m.Status("s"); s.Waiting != 1 || len(m.Answers()) != 0 {
		t.Error("a flush waits for the next device")
	}
}

// P23.5
func TestWaiting(t *testing.T) {
	_, m := small(t)
	device(t, m, "x", on(0, 4, "d", 0))
	device(t, m, "y", on(0, 4, "x", 0))
	m.Suspend("y")
	do(t, m, "y", writing(0, 1))
	do(t, m, "y", writing(3, 2))
	m.Suspend("x")
	do(t, m, "x", writing(0, 3))
	m.Suspend("d")
	do(t, m, "d", writing(0, 4))
	is(t, m.Load("y", load(on(0, 2, "x", 0))), api.OK, "Load")
	is(t, m.Resume("y"), api.OK, "Resume y")
	if l := m.Answers(); !slices.Equal(l, []api.Answer{{Done: true, Ticket: 2, Error: api.ErrRange}}) {
		t.Errorf("Answers: %v", l)
	}
	is(t, m.Resume("x"), api.OK, "Resume x")
	if s, _ := m.Status("d"); s.Waiting != 3 {
		t.Error("tasks wait for the next device")
	}
	is(t, m.Resume("d"), api.OK, "Resume d")
	if l := m.Answers(); !slices.Equal(l, []api.Answer{{Done: true, Ticket: 4}, {Done: true, Ticket: 3}, {Done: true, Ticket: 1}}) {
		t.Errorf("Answers: %v", l)
	}
	if a := do(t, m, "b", reading(4)); a.Value != 1 {
		t.Error("the order of writes")
	}
	if len(m.Answers()) != 0 {
		t.Error("answers come once")
	}
	// The example of the chapter: the write goes to the new place.
	m.Suspend("y")
	do(t, m, "y", writing(0, 9))
	m.Load("y", load(on(0, 1, "b", 0)))
	m.Resume("y")
	if a := do(t, m, "b", reading(0)); a.Value != 9 || len(m.Answers()) != 1 {
		t.Error("the write goes to the new place")
	}
}

// P23.6
func TestDevice(t *testing.T) {
	a, m := small(t)
	if x, e := m.Device("zz"); x != nil || e != api.ErrNone {
		t.Error("no device")
	}
	if b, e := m.Device("b"); e != api.OK || b.Size() != 8 {
		t.Error("a base")
	}
	x, e := m.Device("d")
	if e != api.OK || x.Size() != 4 {
		t.Fatal("a device")
	}
	is(t, x.Write(1, 5), api.OK, "Write")
	is(t, x.Flush(), api.OK, "Flush")
	if v, e := x.Read(1); v != 5 || e != api.OK || a.Unflushed() != 0 {
		t.Error("Read")
	}
	m.Suspend("d")
	if _, e := x.Read(1); e != api.ErrState {
		t.Error("Read of a suspended device")
	}
	if _, e := x.Read(4); e != api.ErrRange {
		t.Error("range ahead of state")
	}
	is(t, x.Write(1, 6), api.ErrState, "Write to a suspended device")
	is(t, x.Write(-1, 6), api.ErrRange, "Write to no sector")
	is(t, x.Flush(), api.ErrState, "Flush of a suspended device")
	m.Resume("d")
	if len(m.Answers()) != 0 {
		t.Error("tasks of a device are forgotten")
	}
	if got := do(t, m, "d", reading(1)); got != done(5, 0) {
		t.Error("a write that was forgotten")
	}
	m.Rename("d", "e")
	if v, e := x.Read(1); v != 5 || e != api.OK {
		t.Error("a device behind Rename")
	}
	exchange(t, m, "e", on(0, 6, "b", 0))
	if x.Size() != 6 {
		t.Error("Size is that of the live table")
	}
	m.Remove("e")
	m.Create("e")
	if _, e := x.Read(0); x.Size() != 0 || e != api.ErrRange || x.Write(0, 1) != api.ErrRange || x.Flush() != api.ErrState {
		t.Error("a device behind Remove")
	}
	y, _ := m.Device("e")
	if _, e := y.Read(0); y.Size() != 0 || e != api.ErrRange || y.Flush() != api.ErrState {
		t.Error("a device without a table")
	}
	if _, e := m.Status("b"); e != api.ErrNone {
		t.Error("Status of a base")
	}
	if s, e := m.Status("e"); e != api.OK || s.Name != "e" || s.HasLive || s.HasNew || s.Suspended {
		t.Error("Status")
	}
}

// A device that stands on itself by a way outside of tables comes to an end.
func TestOutsideCycle(t *testing.T) {
	_, m := small(t)
	x, _ := m.Device("d")
	m.Base("self", x)
	is(t, m.Load("d", load(on(0, 4, "self", 0))), api.OK, "Load")
	m.Suspend("d")
	is(t, m.Resume("d"), api.OK, "Resume")
	if _, e := x.Read(0); e != api.ErrCycle {
		t.Errorf("Read: %d", e)
	}
	is(t, x.Flush(), api.ErrCycle, "Flush")
}

// P23.7
func TestExchange(t *testing.T) {
	r := rand.New(rand.NewSource(1))
	for range 300 {
		_, x := span(t, 8)
		m := New()
		m.Base("b", x)
		device(t, m, "d", on(0, 4, "b", 0))
		device(t, m, "top", on(0, 4, "d", 0))
		var order []int
		tickets := map[int]uint64{}
		low := true
		for k := range 20 {
			switch r.Intn(5) {
			case 0:
				m.Suspend("d")
			case 1:
				m.Suspend("top")
			case 2:
				m.Resume("top")
			case 3:
				if s, _ := m.Status("d"); s.Suspended {
					low = !low
					m.Load("d", load(on(0, 4, "b", map[bool]int{true: 0, false: 4}[low])))
					m.Resume("d")
				}
			}
			at := r.Intn(4)
			got := do(t, m, "top", writing(at, uint64(k+1)))
			if !got.Done {
				tickets[got.Ticket] = uint64(k + 1)
			}
			for _, x := range m.Answers() {
				order = append(order, x.Ticket)
			}
		}
		m.Resume("d")
		m.Resume("top")
		m.Resume("d")
		for _, x := range m.Answers() {
			order = append(order, x.Ticket)
		}
		if len(order) != len(tickets) {
			t.Fatalf("%d of %d tasks were carried out", len(order), len(tickets))
		}
		slices.Sort(order)
		if len(slices.Compact(order)) != len(tickets) {
			t.Fatal("a task was carried out twice")
		}
	}
}
