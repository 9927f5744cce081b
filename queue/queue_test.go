package queue

import (
	"fmt"
	"math"
	"math/rand"
	"slices"
	"testing"
)

const (
	least    = math.MinInt
	greatest = math.MaxInt
)

// plain: by the chapter's words, what a queue is, as a list.
type plain struct {
	room   int
	list   []int
	closed bool
}

func (p *plain) send(x int) Result {
	switch {
	case p.closed:
		return Ended
	case len(p.list) == p.room:
		return Blocked
	}
	p.list = append(slices.Clone(p.list), x)
	return OK
}

func (p *plain) receive() (int, Result) {
	switch {
	case len(p.list) > 0:
		x := p.list[0]
		p.list = slices.Clone(p.list[1:])
		return x, OK
	case p.closed:
		return 0, Ended
	}
	return 0, Blocked
}

func (p *plain) close() bool {
	if p.closed {
		return false
	}
	p.closed = true
	return true
}

// checkAs: does a queue tell what the plain list does, whatever is asked, and twice?
func checkAs(t *testing.T, q *Queue, p *plain) {
	t.Helper()
	for range 2 {
		if q.Room() != p.room || q.Closed() != p.closed {
			t.Fatalf("room %d, closed %v, not %d, %v", q.Room(), q.Closed(), p.room, p.closed)
		}
		if q.Len() != len(p.list) || !slices.Equal(q.List(), p.list) {
			t.Fatalf("%d numbers, %d, not %d", q.Len(), q.List(), p.list)
		}
		if can := p.closed || len(p.list) != p.room; q.CanSend() != can {
			t.Fatalf("can send: %v, of %d, closed %v, room %d", !can, p.list, p.closed, p.room)
		}
		if can := p.closed || len(p.list) != 0; q.CanReceive() != can {
			t.Fatalf("can receive: %v, of %d, closed %v", !can, p.list, p.closed)
		}
	}
}

// checkOpen: is a queue open, with just these numbers?
func checkOpen(t *testing.T, q *Queue, l ...int) {
	t.Helper()
	checkAs(t, q, &plain{q.Room(), l, false})
}

// checkClosed: likewise closed?
func checkClosed(t *testing.T, q *Queue, l ...int) {
	t.Helper()
	checkAs(t, q, &plain{q.Room(), l, true})
}

// checkSend: what comes of it.
func checkSend(t *testing.T, q *Queue, x int, want Result) {
	t.Helper()
	if r := q.Send(x); r != want {
		t.Fatalf("send %d: %d, not %d", x, r, want)
	}
}

// checkReceive: what comes, and what of it.
func checkReceive(t *testing.T, q *Queue, want int, wantResult Result) {
	t.Helper()
	if x, r := q.Receive(); x != want || r != wantResult {
		t.Fatalf("receive: %d, %d, not %d, %d", x, r, want, wantResult)
	}
}

// checkClose: was it open?
func checkClose(t *testing.T, q *Queue, want bool) {
	t.Helper()
	if got := q.Close(); got != want {
		t.Fatalf("close: %v, not %v", got, want)
	}
}

// queueOf: an open one, of these numbers.
func queueOf(t *testing.T, room int, l ...int) *Queue {
	t.Helper()
	q := New(room)
	for _, x := range l {
		checkSend(t, q, x, OK)
	}
	return q
}

// closedOf: a closed one, of these numbers.
func closedOf(t *testing.T, room int, l ...int) *Queue {
	t.Helper()
	q := queueOf(t, room, l...)
	checkClose(t, q, true)
	return q
}

// P18.1: the results have these numbers.
func TestResults(t *testing.T) {
	if OK != 0 || Blocked != 1 || Ended != 2 {
		t.Errorf("%d, %d, %d", OK, Blocked, Ended)
	}
}

// P18.1: rooms at their bounds, below and above them; a new queue is open, and has none.
func TestNew(t *testing.T) {
	for _, x := range [][2]int{
		{1, 1}, {2, 2}, {3, 3}, {4, 4}, {255, 255}, {256, 256}, {1000, 1000}, {4094, 4094}, {4095, 4095}, {4096, 4096},
		{0, 1}, {-1, 1}, {-2, 1}, {-4096, 1}, {-4097, 1}, {-1 << 31, 1}, {-1 << 32, 1}, {-1<<32 + 2, 1}, {least + 2, 1}, {least + 1, 1}, {least, 1},
		{4097, 4096}, {4098, 4096}, {8191, 4096}, {8192, 4096}, {1 << 16, 4096}, {1 << 31, 4096}, {1 << 32, 4096}, {1<<32 + 2, 4096}, {greatest - 1, 4096}, {greatest, 4096},
	} {
		q := New(x[0])
		if q.Room() != x[1] {
			t.Errorf("of %d: room %d, not %d", x[0], q.Room(), x[1])
		}
		if q.Len() != 0 || q.Closed() || len(q.List()) != 0 {
			t.Errorf("of %d: %d, closed %v, %d", x[0], q.Len(), q.Closed(), q.List())
		}
		checkOpen(t, q)
	}
}

// P18.1: as many numbers go into a queue as its room tells, and no more; so also behind all were received.
func TestRoomIsKept(t *testing.T) {
	for _, room := range []int{least, -1, 0, 1, 2, 3, 7, 8, 9, 4095, 4096, 4097, greatest} {
		q := New(room)
		want := min(max(room, 1), 4096)
		for round := range 3 {
			for i := range want {
				if !q.CanSend() || q.Send(round*10000+i) != OK || q.Len() != i+1 {
					t.Fatalf("room %d: number %d, then %d", room, i, q.Len())
				}
			}
			for range 3 {
				if q.CanSend() || q.Send(-1) != Blocked || q.Len() != want || q.Room() != want {
					t.Fatalf("room %d: one more than it has room for", room)
				}
			}
			for i := range want {
				checkReceive(t, q, round*10000+i, OK)
				if q.Len() != want-i-1 {
					t.Fatalf("room %d: %d numbers behind %d", room, q.Len(), i)
				}
			}
			checkReceive(t, q, 0, Blocked)
			checkOpen(t, q)
		}
	}
}

// P18.1: the chapter's example.
func TestExample(t *testing.T) {
	q := New(1)
	checkSend(t, q, 5, OK)
	checkSend(t, q, 6, Blocked)
	checkClose(t, q, true)
	checkReceive(t, q, 5, OK)
	checkReceive(t, q, 0, Ended)
	checkClosed(t, q)
}

// P18.1: into one that is empty, and one that has room for more, or for just one; the number stands behind the others.
func TestSendOpen(t *testing.T) {
	q := New(3)
	checkSend(t, q, 7, OK)
	checkOpen(t, q, 7)
	checkSend(t, q, 4, OK)
	checkOpen(t, q, 7, 4)
	checkSend(t, q, 9, OK)
	checkOpen(t, q, 7, 4, 9)

	q = New(1)
	checkSend(t, q, 8, OK)
	checkOpen(t, q, 8)
	// What is there already is sent once more.
	q = New(4)
	for range 4 {
		checkSend(t, q, 6, OK)
	}
	checkOpen(t, q, 6, 6, 6, 6)
}

// P18.1: into a full one: Blocked, and nothing is changed, however often.
func TestSendFull(t *testing.T) {
	for _, l := range [][]int{{5}, {5, 6}, {3, 2, 1}, {0, 0, 0, 0}} {
		q := queueOf(t, len(l), l...)
		for _, x := range []int{9, 0, -1, l[0], least, greatest} {
			checkSend(t, q, x, Blocked)
			checkOpen(t, q, l...)
		}
		// There is room once more when the first one is gone.
		checkReceive(t, q, l[0], OK)
		checkSend(t, q, 9, OK)
		checkOpen(t, q, append(slices.Clone(l[1:]), 9)...)
		checkSend(t, q, 10, Blocked)
		checkOpen(t, q, append(slices.Clone(l[1:]), 9)...)
	}
}

// P18.1: into a closed one, be it empty, full or neither: Ended, and nothing is changed, however often.
func TestSendClosed(t *testing.T) {
	for _, l := range [][]int{nil, {5}, {5, 6}, {5, 6, 7}} {
		q := closedOf(t, 3, l...)
		for _, x := range []int{9, 0, -1, least, greatest} {
			checkSend(t, q, x, Ended)
			checkClosed(t, q, l...)
		}
	}
	q := closedOf(t, 1)
	checkSend(t, q, 5, Ended)
	checkClosed(t, q)
	q = closedOf(t, 1, 4)
	checkSend(t, q, 5, Ended)
	checkClosed(t, q, 4)
	// Nor is it Blocked or OK when numbers went out of it.
	checkReceive(t, q, 4, OK)
	checkSend(t, q, 5, Ended)
	checkClosed(t, q)
}

// P18.1: the first number, which is in it no more, of an open queue and of a closed one.
func TestReceiveNumbers(t *testing.T) {
	l := []int{7, 4, 4, -9, 0}
	for room := 5; room <= 6; room++ {
		q := queueOf(t, room, l...)
		for i, x := range l {
			checkReceive(t, q, x, OK)
			checkOpen(t, q, l[i+1:]...)
		}
		q = closedOf(t, room, l...)
		for i, x := range l {
			checkReceive(t, q, x, OK)
			checkClosed(t, q, l[i+1:]...)
		}
	}
}

// P18.1: of an empty queue: 0, and Blocked, if it is open, Ended, if it is closed; again and again, and nothing changes.
func TestReceiveOfNone(t *testing.T) {
	for _, room := range []int{1, 2, 4096} {
		for _, l := range [][]int{nil, {5}, {6}} {
			q := queueOf(t, room, l...)
			for _, x := range l {
				checkReceive(t, q, x, OK)
			}
			for range 4 {
				checkReceive(t, q, 0, Blocked)
				checkOpen(t, q)
			}
			checkClose(t, q, true)
			for range 4 {
				checkReceive(t, q, 0, Ended)
				checkClosed(t, q)
			}
		}
	}
	// It was Blocked, but what comes then is received.
	q := New(2)
	checkReceive(t, q, 0, Blocked)
	checkSend(t, q, 3, OK)
	checkReceive(t, q, 3, OK)
	checkReceive(t, q, 0, Blocked)
}

// P18.1, P18.3: 0, numbers below 0 and the ends are handed on as they are, and a 0 that was sent comes with OK.
func TestAnyNumber(t *testing.T) {
	l := []int{
		0, 1, -1, 2, -2, 255, 256, -256, 4096, 4097, 1<<15 - 1, 1 << 15, 1<<16 + 1, -1 << 15,
		1<<31 - 1, 1 << 31, -1 << 31, -1<<31 - 1, 1<<32 - 1, 1 << 32, 1<<32 + 1, -1 << 32, 1<<53 + 1, greatest - 1, greatest, least + 1, least, 0, 0,
	}
	for _, room := range []int{1, 2, 4096} {
		q := New(room)
		for _, x := range l {
			checkSend(t, q, x, OK)
			checkOpen(t, q, x)
			checkReceive(t, q, x, OK)
			checkOpen(t, q)
		}
	}
	q := closedOf(t, len(l), l...)
	checkClosed(t, q, l...)
	for _, x := range l {
		checkReceive(t, q, x, OK)
	}
	checkReceive(t, q, 0, Ended)
}

// P18.2: of an open one true, of a closed one false, and it stays closed; the numbers that are in it are still received.
func TestClose(t *testing.T) {
	for _, l := range [][]int{nil, {5}, {5, 6}, {5, 6, 7}} {
		q := queueOf(t, 3, l...)
		if q.Closed() {
			t.Fatal("closed before Close")
		}
		checkClose(t, q, true)
		checkClosed(t, q, l...)
		for range 4 {
			checkClose(t, q, false)
			checkClosed(t, q, l...)
		}
		for i, x := range l {
			checkReceive(t, q, x, OK)
			checkClose(t, q, false)
			checkClosed(t, q, l[i+1:]...)
		}
		checkReceive(t, q, 0, Ended)
		checkClose(t, q, false)
		checkSend(t, q, 1, Ended)
		checkClose(t, q, false)
		checkClosed(t, q)
	}
}

// P18.2: whether Send and Receive would be Blocked: empty, neither empty nor full, full, each open and closed; a queue of room 1 is never neither.
func TestCan(t *testing.T) {
	for _, x := range []struct {
		room                      int
		list                      []int
		open, closed              [2]bool
		sendOpen, receiveOpen     Result
		sendClosed, receiveClosed Result
	}{
		{3, nil, [2]bool{true, false}, [2]bool{true, true}, OK, Blocked, Ended, Ended},
		{3, []int{4}, [2]bool{true, true}, [2]bool{true, true}, OK, OK, Ended, OK},
		{3, []int{4, 5}, [2]bool{true, true}, [2]bool{true, true}, OK, OK, Ended, OK},
		{3, []int{4, 5, 6}, [2]bool{false, true}, [2]bool{true, true}, Blocked, OK, Ended, OK},
		{1, nil, [2]bool{true, false}, [2]bool{true, true}, OK, Blocked, Ended, Ended},
		{1, []int{0}, [2]bool{false, true}, [2]bool{true, true}, Blocked, OK, Ended, OK},
	} {
		for _, closed := range []bool{false, true} {
			of, can, send, receive := queueOf, x.open, x.sendOpen, x.receiveOpen
			if closed {
				of, can, send, receive = closedOf, x.closed, x.sendClosed, x.receiveClosed
			}
			q := of(t, x.room, x.list...)
			for range 5 {
				if q.CanSend() != can[0] || q.CanReceive() != can[1] {
					t.Errorf("%d of %d, closed %v: %v, %v, not %v", x.list, x.room, closed, q.CanSend(), q.CanReceive(), can)
				}
			}
			checkAs(t, q, &plain{x.room, x.list, closed})
			// And so it is then.
			if r := q.Send(1); r != send || (r != Blocked) != can[0] {
				t.Errorf("%d of %d, closed %v: send %d", x.list, x.room, closed, r)
			}
			if _, r := of(t, x.room, x.list...).Receive(); r != receive || (r != Blocked) != can[1] {
				t.Errorf("%d of %d, closed %v: receive %d", x.list, x.room, closed, r)
			}
		}
	}
}

// P18.1, P18.2: asking changes nothing, whatever is asked, and however often.
func TestAskingChangesNothing(t *testing.T) {
	for _, closed := range []bool{false, true} {
		for n := range 4 {
			l := []int{4, 9, 6}[:n]
			q := queueOf(t, 3, l...)
			if closed {
				checkClose(t, q, true)
			}
			for range 3 {
				for _, ask := range []func() string{
					func() string { return fmt.Sprint(q.Room(), q.Len(), q.Closed()) },
					func() string { return fmt.Sprint(q.CanSend()) },
					func() string { return fmt.Sprint(q.CanReceive()) },
					func() string { return fmt.Sprint(q.List()) },
				} {
					if a, b := ask(), ask(); a != b {
						t.Errorf("%s, then %s", a, b)
					}
					checkAs(t, q, &plain{3, l, closed})
				}
			}
		}
	}
}

// P18.3: numbers come in the order in which they were sent, however full the queue is kept, over many more than it has room for.
func TestOrder(t *testing.T) {
	const numbers = 20000
	for _, room := range []int{1, 2, 3, 4, 5, 8, 100, 4095, 4096} {
		for _, kept := range []int{0, 1, room / 2, room - 1} {
			q := New(room)
			kept = min(max(kept, 0), room-1)
			for i := range kept {
				checkSend(t, q, i*3-7, OK)
			}
			for i := kept; i < numbers; i++ {
				checkSend(t, q, i*3-7, OK)
				checkReceive(t, q, (i-kept)*3-7, OK)
				if q.Len() != kept {
					t.Fatalf("room %d: %d numbers, not %d", room, q.Len(), kept)
				}
			}
			checkClose(t, q, true)
			for i := numbers - kept; i < numbers; i++ {
				checkReceive(t, q, i*3-7, OK)
			}
			checkReceive(t, q, 0, Ended)
		}
	}
}

// P18.3: filled until it is Blocked, then emptied until it is, again and again.
func TestOrderInFlows(t *testing.T) {
	for _, room := range []int{1, 2, 3, 5, 64, 4096} {
		q := New(room)
		sent, received := 0, 0
		for range 20 {
			for q.Send(sent) == OK {
				sent++
			}
			for {
				x, r := q.Receive()
				if r != OK {
					break
				}
				if x != received {
					t.Fatalf("room %d: %d, not %d", room, x, received)
				}
				received++
			}
		}
		if sent != 20*room || received != sent {
			t.Errorf("room %d: %d sent, %d received", room, sent, received)
		}
	}
}

// P18.1, P18.2, P18.3: many deeds of all kinds tell what a plain list does, whichever comes when.
func TestAgainstPlainList(t *testing.T) {
	for seed := range int64(400) {
		random := rand.New(rand.NewSource(seed))
		room := 1 + random.Intn(9)
		sends := 1 + random.Intn(9) // of ten deeds
		q, p := New(room), &plain{room: room}
		for range 300 {
			switch {
			case random.Intn(200) == 0:
				checkClose(t, q, p.close())
			case random.Intn(10) < sends:
				x := random.Intn(5) - 2
				if random.Intn(2) == 0 {
					x = int(random.Uint64())
				}
				checkSend(t, q, x, p.send(x))
			default:
				x, r := p.receive()
				checkReceive(t, q, x, r)
			}
			checkAs(t, q, p)
		}
	}
}

// P18.1, P18.2, P18.3: all rows of eight deeds, of queues of room 1 to 3, tell what a plain list does.
func TestAllShortRows(t *testing.T) {
	const deeds = 8
	for room := 1; room <= 3; room++ {
		for row := range 3 * 3 * 3 * 3 * 3 * 3 * 3 * 3 {
			q, p := New(room), &plain{room: room}
			for i := range deeds {
				switch row % 3 {
				case 0:
					checkSend(t, q, i+1, p.send(i+1))
				case 1:
					x, r := p.receive()
					checkReceive(t, q, x, r)
				default:
					checkClose(t, q, p.close())
				}
				checkAs(t, q, p)
				row /= 3
			}
		}
	}
}

// spoil: writes over all of a list, its spare room too.
func spoil(l []int) {
	l = l[:cap(l)]
	for i := range l {
		l[i] = -77
	}
}

// P18.3: what List tells is new memory, each time: what is written there, the queue and other answers don't show.
func TestListIsNewMemory(t *testing.T) {
	q := queueOf(t, 8, 1, 2, 3, 4)
	checkReceive(t, q, 1, OK)
	a, b := q.List(), q.List()
	spoil(a)
	if !slices.Equal(b, []int{2, 3, 4}) {
		t.Errorf("another answer: %d", b)
	}
	checkOpen(t, q, 2, 3, 4)
	// Also when the queue's next numbers stand where the list's spare room would be.
	c := q.List()
	checkSend(t, q, 5, OK)
	spoil(c)
	checkOpen(t, q, 2, 3, 4, 5)
	spoil(b)
	for _, x := range []int{2, 3, 4, 5} {
		spoil(q.List())
		checkReceive(t, q, x, OK)
	}
	spoil(q.List())
	checkSend(t, q, 6, OK)
	checkOpen(t, q, 6)
	// Be it empty, full or neither, open or closed.
	for n := range 4 {
		l := []int{4, 9, 6}[:n]
		q := queueOf(t, 3, l...)
		spoil(q.List())
		checkOpen(t, q, l...)
		q.Close()
		spoil(q.List())
		checkClosed(t, q, l...)
	}
}

// P18.3: a List asked for earlier stays as it was when the queue goes on.
func TestListStays(t *testing.T) {
	for _, room := range []int{1, 2, 3, 8} {
		q, p := New(room), &plain{room: room}
		var told, want [][]int
		for i := range 60 {
			if i%7 < 4 {
				checkSend(t, q, i, p.send(i))
			} else {
				x, r := p.receive()
				checkReceive(t, q, x, r)
			}
			told, want = append(told, q.List()), append(want, slices.Clone(p.list))
		}
		checkClose(t, q, true)
		for i := range told {
			if !slices.Equal(told[i], want[i]) {
				t.Fatalf("room %d, behind deed %d: %d, not %d", room, i, told[i], want[i])
			}
		}
	}
}

// P18.3: queues have nothing together.
func TestQueuesAreApart(t *testing.T) {
	a, b := New(2), New(3)
	checkSend(t, a, 1, OK)
	checkOpen(t, b)
	checkSend(t, b, 7, OK)
	checkSend(t, b, 8, OK)
	checkOpen(t, a, 1)
	checkReceive(t, b, 7, OK)
	checkSend(t, a, 2, OK)
	checkSend(t, a, 3, Blocked)
	checkOpen(t, b, 8)
	checkClose(t, a, true)
	checkOpen(t, b, 8)
	checkClosed(t, a, 1, 2)
	checkSend(t, b, 9, OK)
	checkReceive(t, a, 1, OK)
	checkOpen(t, b, 8, 9)
	checkClose(t, b, true)
	checkReceive(t, a, 2, OK)
	checkReceive(t, a, 0, Ended)
	checkClosed(t, b, 8, 9)
	// Nor have two of the same room.
	c, d := New(1), New(1)
	checkSend(t, c, 5, OK)
	checkReceive(t, d, 0, Blocked)
	checkOpen(t, c, 5)
	checkClose(t, d, true)
	checkOpen(t, c, 5)
}
