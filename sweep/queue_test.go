package sweep_test

import (
	"runtime"
	"slices"
	"testing"
	"weak"

	"surtitle/sweep"
)

// guest is in a queue, by rank.
type guest struct{ rank, number int }

func (g guest) Before(o guest) bool { return g.rank < o.rank }

// queueWords: P1205 by a list that is gone through.
type queueWords []guest

func (q *queueWords) pop() (guest, bool) {
	for n, x := range *q {
		if !slices.ContainsFunc(*q, func(y guest) bool { return y.Before(x) }) {
			*q = slices.Delete(*q, n, n+1)
			return x, true
		}
	}
	return guest{}, false
}

// TestQueueOrder: P1205: the first by Before; of several the one that was pushed first; none when all are out.
func TestQueueOrder(t *testing.T) {
	for _, x := range []struct{ ranks, want []int }{
		{nil, nil},
		{[]int{7}, []int{0}},
		{[]int{1, 2, 3}, []int{0, 1, 2}},
		{[]int{3, 2, 1}, []int{2, 1, 0}},
		{[]int{3, 1, 2, 1, 3, 1}, []int{1, 3, 5, 2, 0, 4}},
		{[]int{5, 5, 5, 5, 5, 5, 5, 5}, []int{0, 1, 2, 3, 4, 5, 6, 7}},
		{[]int{-1, 0, -2, 0, -1}, []int{2, 0, 4, 1, 3}},
	} {
		q := sweep.NewQueue[guest]()
		for n, rank := range x.ranks {
			if q.Len() != n {
				t.Errorf("%v: %d are in it, not %d", x.ranks, q.Len(), n)
			}
			q.Push(guest{rank, n})
		}
		var got []int
		for q.Len() > 0 {
			g, ok := q.Pop()
			if !ok {
				t.Fatal("one that is in it does not come out")
			}
			got = append(got, g.number)
		}
		if !slices.Equal(got, x.want) {
			t.Errorf("%v: %v; want %v", x.ranks, got, x.want)
		}
		for range 2 {
			if g, ok := q.Pop(); ok || g != (guest{}) || q.Len() != 0 {
				t.Errorf("%v: then %v, %v, %d", x.ranks, g, ok, q.Len())
			}
		}
	}
}

// TestQueueWords: P1205: pushes and pops in any order, of few ranks and of many, by the words; two queues know nothing of one another.
func TestQueueWords(t *testing.T) {
	m := newMaker(20)
	for range 300 {
		var queues [2]*sweep.Queue[guest]
		var words [2]queueWords
		for k := range queues {
			queues[k] = sweep.NewQueue[guest]()
		}
		ranks, eager := pick(m, 1, 2, 5, 1000), 2+m.dice.IntN(3)
		for n := range 300 {
			k := m.dice.IntN(2)
			if m.one(eager) {
				got, ok := queues[k].Pop()
				want, there := words[k].pop()
				if got != want || ok != there {
					t.Fatalf("%v, %v; want %v, %v", got, ok, want, there)
				}
			} else {
				x := guest{m.dice.IntN(ranks), n}
				queues[k].Push(x)
				words[k] = append(words[k], x)
			}
			if queues[k].Len() != len(words[k]) {
				t.Fatalf("%d are in it, not %d", queues[k].Len(), len(words[k]))
			}
		}
	}
}

// TestQueueMany: P1205 of a great many.
func TestQueueMany(t *testing.T) {
	q := sweep.NewQueue[guest]()
	const many = 200000
	for n := range many {
		q.Push(guest{n * 7919 % 101, n})
	}
	last, _ := q.Pop()
	for range many - 1 {
		g, ok := q.Pop()
		if !ok || g.Before(last) || g.rank == last.rank && g.number < last.number {
			t.Fatal(last, "then", g, ok)
		}
		last = g
	}
	if q.Len() != 0 {
		t.Error(q.Len())
	}
}

// letter is one that is told by an interface, and by an address.
type letter interface{ Before(letter) bool }

// stamp is great enough to have memory of its own.
type stamp struct {
	date int
	body [64]byte
}

func (s *stamp) Before(o letter) bool { return s.date < o.(*stamp).date }

// TestQueueOfInterfaces: P1205 of interface values, the zero value of which is nil.
func TestQueueOfInterfaces(t *testing.T) {
	q := sweep.NewQueue[letter]()
	late, early := &stamp{date: 2}, &stamp{date: 1}
	q.Push(late)
	q.Push(early)
	if x, ok := q.Pop(); x != letter(early) || !ok {
		t.Error(x, ok)
	}
	if x, ok := q.Pop(); x != letter(late) || !ok {
		t.Error(x, ok)
	}
	if x, ok := q.Pop(); x != nil || ok {
		t.Error(x, ok)
	}
}

// whim is before any other, or none: no order at all.
type whim struct{ any bool }

func (w whim) Before(whim) bool { return w.any }

// TestQueueWithoutOrder: P1: calls end whatever Before tells, and what was pushed comes out.
func TestQueueWithoutOrder(t *testing.T) {
	m := newMaker(21)
	q := sweep.NewQueue[whim]()
	in, out := 0, 0
	for range 500 {
		x := whim{m.half()}
		q.Push(x)
		if x.any {
			in++
		}
	}
	for q.Len() > 0 {
		if x, _ := q.Pop(); x.any {
			out++
		}
	}
	if in != out {
		t.Errorf("%d came in, %d out", in, out)
	}
}

// TestQueueLetsGo: P1205: what is out of it is in it no more, its memory neither.
func TestQueueLetsGo(t *testing.T) {
	q := sweep.NewQueue[letter]()
	var marks []weak.Pointer[stamp]
	for n := range 20 {
		s := &stamp{date: n}
		marks = append(marks, weak.Make(s))
		q.Push(s)
	}
	for _, out := range []int{0, 12, len(marks)} {
		for q.Len() > len(marks)-out {
			q.Pop()
		}
		runtime.GC()
		for n, w := range marks {
			if held := w.Value() != nil; held != (n >= out) {
				t.Errorf("%d are out; %d is held: %v", out, n, held)
			}
		}
	}
	runtime.KeepAlive(q)
}
