package pins_test

import (
	"fmt"
	"math"
	"math/rand/v2"
	"slices"
	"testing"

	"louver/api"
	"louver/pins"
)

// top is the highest epoch that there may be.
const top = math.MaxUint64

// of is that of so many workers that there may be.
func of(t *testing.T, workers int) *pins.Pins {
	t.Helper()
	p := pins.New(workers)
	if p == nil {
		t.Fatalf("%d workers: none", workers)
	}
	return p
}

// ref is one that is told apart from those of all other numbers.
func ref(n int) api.Ref { return api.Ref{Slot: n % api.MaxSlots, Turn: uint32(n/api.MaxSlots) + 1} }

// installs lets a worker go on.
func installs(t *testing.T, p *pins.Pins, worker int, epoch uint64) {
	t.Helper()
	if err := p.Install(worker, epoch); err != api.OK {
		t.Fatalf("install of %d by worker %d: error %d", epoch, worker, err)
	}
}

// looks lets a worker look, twice: the second time it looks already, and that changes nothing.
func looks(t *testing.T, p *pins.Pins, worker int, epoch uint64) {
	t.Helper()
	if got, err := p.Pin(worker); got != epoch || err != api.OK {
		t.Fatalf("pin by worker %d: %d, error %d, not %d", worker, got, err, epoch)
	}
	if got, err := p.Pin(worker); got != 0 || err != api.ErrState {
		t.Fatalf("pin by worker %d, twice: %d, error %d", worker, got, err)
	}
}

// leaves lets a worker look no more, twice: the second time it looks at none, and that changes nothing.
func leaves(t *testing.T, p *pins.Pins, worker int) {
	t.Helper()
	if err := p.Unpin(worker); err != api.OK {
		t.Fatalf("unpin by worker %d: error %d", worker, err)
	}
	if err := p.Unpin(worker); err != api.ErrState {
		t.Fatalf("unpin by worker %d, twice: error %d", worker, err)
	}
}

// isAt tells whether a worker that looks at none is at that epoch: none below is taken, and it is what it would look at.
func isAt(t *testing.T, p *pins.Pins, worker int, epoch uint64) {
	t.Helper()
	refuses(t, p, worker, epoch)
	looks(t, p, worker, epoch)
	leaves(t, p, worker)
}

// refuses tells whether a worker takes no epoch below the one that it is at.
func refuses(t *testing.T, p *pins.Pins, worker int, at uint64) {
	t.Helper()
	for _, below := range []uint64{0, at / 2, at - 1} {
		if below >= at {
			continue
		}
		if err := p.Install(worker, below); err != api.ErrState {
			t.Fatalf("install of %d by worker %d, at %d: error %d", below, worker, at, err)
		}
	}
}

// oldest looks twice: who looks changes nothing.
func oldest(t *testing.T, p *pins.Pins, want uint64) {
	t.Helper()
	for range 2 {
		if got := p.Oldest(); got != want {
			t.Fatalf("oldest: %d, not %d", got, want)
		}
	}
}

// waits tells whether so many wait, twice: who looks changes nothing.
func waits(t *testing.T, p *pins.Pins, want int) {
	t.Helper()
	for range 2 {
		if got := p.Waiting(); got != want {
			t.Fatalf("%d wait, not %d", got, want)
		}
	}
}

// retires lets one wait, behind so many.
func retires(t *testing.T, p *pins.Pins, r api.Ref, epoch uint64, ahead int) {
	t.Helper()
	waits(t, p, ahead)
	if err := p.Retire(r, epoch); err != api.OK {
		t.Fatalf("retire of %v at %d: error %d", r, epoch, err)
	}
	waits(t, p, ahead+1)
}

// full tells whether no more may wait, and lets none.
func full(t *testing.T, p *pins.Pins) {
	t.Helper()
	for _, epoch := range []uint64{0, 1, top} {
		if err := p.Retire(api.Ref{Slot: 9, Turn: 9}, epoch); err != api.ErrFull {
			t.Fatalf("retire at %d with %d that wait: error %d", epoch, p.Waiting(), err)
		}
	}
	waits(t, p, api.MaxSlots)
}

// sweeps tells whether just those are swept, and, swept once more, none: so many stay.
func sweeps(t *testing.T, p *pins.Pins, stay int, want ...api.Ref) {
	t.Helper()
	waits(t, p, stay+len(want))
	if got := p.Sweep(); !slices.Equal(got, want) {
		t.Fatalf("swept: %v, not %v", got, want)
	}
	for range 2 {
		waits(t, p, stay)
		if got := p.Sweep(); len(got) != 0 {
			t.Fatalf("swept once more: %v", got)
		}
	}
}

// P16.1

func TestNewOfWorkersThatThereMayBe(t *testing.T) {
	for workers := 1; workers <= api.MaxShards; workers++ {
		p := of(t, workers)
		oldest(t, p, 0)
		sweeps(t, p, 0)
		for worker := range workers {
			if err := p.Unpin(worker); err != api.ErrState { // none looks at one
				t.Errorf("worker %d of %d: unpin: error %d", worker, workers, err)
			}
		}
		for worker := range workers {
			isAt(t, p, worker, 0)
			installs(t, p, worker, 7)
			isAt(t, p, worker, 7)
		}
		oldest(t, p, 7)
		waits(t, p, 0)
	}
}

func TestNewOfWorkersThatThereMayNotBe(t *testing.T) {
	for _, workers := range []int{0, -1, -2, -4, -5, math.MinInt32, math.MinInt, 5, 6, 8, 64, 256, 257, 65536, 1<<32 + 1, math.MaxInt32, math.MaxInt} {
		if pins.New(workers) != nil {
			t.Errorf("%d workers: there is one", workers)
		}
	}
}

func TestNil(t *testing.T) {
	var p *pins.Pins
	for range 2 {
		for _, worker := range []int{0, 1, 3, 4, -1, math.MinInt, math.MaxInt} { // be there one or not
			strangers(t, p, worker)
		}
		for _, epoch := range []uint64{0, 1, top} {
			if err := p.Retire(api.Ref{Slot: 1, Turn: 1}, epoch); err != api.ErrArg {
				t.Errorf("retire at %d: error %d", epoch, err)
			}
		}
		oldest(t, p, 0)
		sweeps(t, p, 0)
	}
}

// strangers tells whether all calls of a worker that there isn't tell so.
func strangers(t *testing.T, p *pins.Pins, worker int) {
	t.Helper()
	for _, epoch := range []uint64{0, 1, 5, 6, top} {
		if err := p.Install(worker, epoch); err != api.ErrArg {
			t.Errorf("install of %d by worker %d: error %d", epoch, worker, err)
		}
	}
	for range 2 {
		if epoch, err := p.Pin(worker); epoch != 0 || err != api.ErrArg {
			t.Errorf("pin by worker %d: %d, error %d", worker, epoch, err)
		}
	}
	for range 2 {
		if err := p.Unpin(worker); err != api.ErrArg {
			t.Errorf("unpin by worker %d: error %d", worker, err)
		}
	}
}

func TestWorkersThatThereAreNot(t *testing.T) {
	for workers := 1; workers <= api.MaxShards; workers++ {
		p := of(t, workers)
		for worker := range workers { // at 5, and the even ones look at 4
			installs(t, p, worker, 4)
			if worker%2 == 0 {
				looks(t, p, worker, 4)
			}
			installs(t, p, worker, 5)
		}
		retires(t, p, ref(1), 5, 0)
		for _, worker := range []int{-1, -2, -workers, -4, -5, math.MinInt32, math.MinInt, workers, workers + 1, 2 * workers, 4, 5, 64, 256, 65536, 1 << 32, 1<<32 + 1, -1 << 32, math.MaxInt32, math.MaxInt} {
			if worker < 0 || worker >= workers {
				strangers(t, p, worker)
			}
		}
		oldest(t, p, 4)
		sweeps(t, p, 1)
		for worker := range workers { // all are as they were
			if worker%2 == 0 {
				leaves(t, p, worker)
			}
			isAt(t, p, worker, 5)
		}
		sweeps(t, p, 0, ref(1))
	}
}

func TestInstallOfTheSameEpochAndOfLaterOnes(t *testing.T) {
	p := of(t, 1)
	for _, epoch := range []uint64{0, 1, 2, 5, 127, 128, 255, 256, 65535, 65536, math.MaxInt32, math.MaxInt32 + 1, math.MaxUint32, math.MaxUint32 + 1, 1<<53 + 1, math.MaxInt64, math.MaxInt64 + 1, math.MaxInt64 + 2, top - 1, top} {
		installs(t, p, 0, epoch)
		isAt(t, p, 0, epoch)
		installs(t, p, 0, epoch)
		isAt(t, p, 0, epoch)
		oldest(t, p, epoch)
	}
}

func TestInstallOfAnEpochBelow(t *testing.T) {
	for _, at := range []uint64{1, 2, 5, 256, 65536, math.MaxUint32, math.MaxUint32 + 1, math.MaxInt64, math.MaxInt64 + 1, math.MaxInt64 + 5, top - 1, top} {
		p := of(t, 2)
		installs(t, p, 1, at)
		for _, below := range []uint64{0, 1, 4, 255, 65535, math.MaxInt64, math.MaxInt64 + 1, at / 2, at - 2, at - 1} {
			if below >= at {
				continue
			}
			if err := p.Install(1, below); err != api.ErrState {
				t.Errorf("install of %d at %d: error %d", below, at, err)
			}
		}
		isAt(t, p, 1, at)
		isAt(t, p, 0, 0) // what another one is at plays no part
		installs(t, p, 0, at-1)
		oldest(t, p, at-1)
		isAt(t, p, 0, at-1)
	}
}

func TestPinWhileItLooks(t *testing.T) {
	p := of(t, 2)
	looks(t, p, 0, 0) // also of epoch 0 it is told apart whether it is looked at
	installs(t, p, 0, 3)
	if epoch, err := p.Pin(0); epoch != 0 || err != api.ErrState {
		t.Errorf("pin: %d, error %d", epoch, err)
	}
	oldest(t, p, 0)
	leaves(t, p, 0)
	looks(t, p, 0, 3)
	looks(t, p, 1, 0) // that another one looks plays no part
	leaves(t, p, 0)
	if epoch, err := p.Pin(1); epoch != 0 || err != api.ErrState {
		t.Errorf("pin: %d, error %d", epoch, err)
	}
}

func TestUnpinWhereItLooksAtNone(t *testing.T) {
	p := of(t, 2)
	looks(t, p, 1, 0)
	if err := p.Unpin(0); err != api.ErrState { // another one looks
		t.Errorf("unpin: error %d", err)
	}
	installs(t, p, 0, 2)
	if err := p.Unpin(0); err != api.ErrState {
		t.Errorf("unpin: error %d", err)
	}
	leaves(t, p, 1)
	isAt(t, p, 0, 2)
	isAt(t, p, 1, 0)
}

func TestInstallWhileItLooks(t *testing.T) {
	p := of(t, 1)
	installs(t, p, 0, 2)
	looks(t, p, 0, 2)
	for _, epoch := range []uint64{2, 3, 9, 9, 10} {
		installs(t, p, 0, epoch)
		oldest(t, p, 2) // what it looks at stays
		refuses(t, p, 0, epoch)
	}
	if err := p.Install(0, 5); err != api.ErrState { // above what it looks at, and below what it is at
		t.Errorf("install of 5: error %d", err)
	}
	installs(t, p, 0, top)
	oldest(t, p, 2)
	leaves(t, p, 0)
	oldest(t, p, top) // what it is at went on
	isAt(t, p, 0, top)
}

func TestInstallBetweenPins(t *testing.T) {
	p := of(t, 1)
	for epoch := uint64(1); epoch < 100; epoch++ {
		looks(t, p, 0, epoch-1)
		installs(t, p, 0, epoch)
		oldest(t, p, epoch-1)
		leaves(t, p, 0)
		oldest(t, p, epoch)
	}
}

// what is a worker of a case: the epoch that it looks at, unless that is -1, and the one that it is at.
type what struct {
	sees int
	at   uint64
}

func TestOldest(t *testing.T) {
	for _, c := range []struct {
		want uint64
		all  []what
	}{
		{0, []what{{-1, 0}}},
		{7, []what{{-1, 7}}},
		{7, []what{{7, 7}}},
		{3, []what{{3, 7}}},
		{0, []what{{0, top}}},
		{top, []what{{-1, top}, {-1, top}}},
		{4, []what{{-1, 5}, {-1, 4}}},
		{4, []what{{-1, 4}, {-1, 5}}},
		{3, []what{{-1, 4}, {3, 9}}},
		{3, []what{{3, 9}, {-1, 4}}},
		{4, []what{{-1, 4}, {6, 9}}},
		{4, []what{{6, 9}, {4, 4}}},
		{5, []what{{6, 9}, {7, 8}, {-1, 5}}},
		{5, []what{{6, 9}, {5, top}, {-1, 8}}},
		{2, []what{{9, 9}, {-1, 9}, {2, 9}, {3, 9}}},
		{1, []what{{9, 9}, {-1, 9}, {2, 9}, {1, 1}}},
		{0, []what{{9, 9}, {-1, 9}, {2, 9}, {-1, 0}}},
		{math.MaxInt64, []what{{-1, top}, {-1, math.MaxInt64}, {-1, math.MaxInt64 + 1}}},
	} {
		p := of(t, len(c.all))
		for worker, w := range c.all {
			if w.sees >= 0 {
				installs(t, p, worker, uint64(w.sees))
				looks(t, p, worker, uint64(w.sees))
			}
			installs(t, p, worker, w.at)
		}
		oldest(t, p, c.want)
		lowest := c.all[0].at
		for worker, w := range c.all { // once nobody looks, only what they are at plays a part
			if w.sees >= 0 {
				leaves(t, p, worker)
			}
			lowest = min(lowest, w.at)
		}
		oldest(t, p, lowest)
	}
}

func TestOldestAtEachStep(t *testing.T) {
	p := of(t, 3)
	installs(t, p, 0, 4)
	installs(t, p, 1, 6)
	oldest(t, p, 0) // of the one that went on nowhere
	installs(t, p, 2, 5)
	oldest(t, p, 4)
	looks(t, p, 0, 4)
	installs(t, p, 0, 8)
	oldest(t, p, 4)
	looks(t, p, 2, 5)
	installs(t, p, 2, 9)
	leaves(t, p, 0)
	oldest(t, p, 5)
	leaves(t, p, 2)
	oldest(t, p, 6)
	installs(t, p, 1, 7)
	oldest(t, p, 7)
	installs(t, p, 1, 20)
	oldest(t, p, 8)
	waits(t, p, 0)
}

// Who looks, leaves, or goes on, lets no other one do so.
func TestWorkersAreApart(t *testing.T) {
	p := of(t, 4)
	for worker := range 4 {
		installs(t, p, worker, uint64(10*worker+1))
	}
	for worker := range 4 {
		looks(t, p, worker, uint64(10*worker+1))
		installs(t, p, worker, uint64(10*worker+2))
	}
	for _, worker := range []int{2, 0, 3, 1} {
		leaves(t, p, worker)
		isAt(t, p, worker, uint64(10*worker+2))
	}
}

// P16.2

func TestRetireTillFull(t *testing.T) {
	for workers := 1; workers <= api.MaxShards; workers++ {
		p := of(t, workers)
		var refs []api.Ref
		for n := range api.MaxSlots { // 63 wait, and one more may
			retires(t, p, ref(n), 1, n)
			refs = append(refs, ref(n))
		}
		for range 3 {
			full(t, p)
		}
		sweeps(t, p, api.MaxSlots)
		full(t, p)
		for worker := range workers {
			installs(t, p, worker, 1)
		}
		sweeps(t, p, 0, refs...) // what there was no room for is nowhere
		for n := range api.MaxSlots {
			retires(t, p, ref(100+n), 2, n)
		}
		full(t, p)
	}
}

func TestRoomForAsManyAsWereSwept(t *testing.T) {
	p := of(t, 1)
	var later []api.Ref
	for n := range api.MaxSlots {
		epoch := uint64(1 + n%2)
		retires(t, p, ref(n), epoch, n)
		if epoch == 2 {
			later = append(later, ref(n))
		}
	}
	full(t, p)
	installs(t, p, 0, 1)
	if got := p.Sweep(); len(got) != 32 {
		t.Fatalf("%d were swept", len(got))
	}
	for n := range 32 {
		retires(t, p, ref(100+n), 2, 32+n)
		later = append(later, ref(100+n))
	}
	full(t, p)
	installs(t, p, 0, 2)
	sweeps(t, p, 0, later...)
}

func TestRetireOfEachEpoch(t *testing.T) {
	epochs := []uint64{0, 1, 2, 255, 256, math.MaxUint32, math.MaxUint32 + 1, math.MaxInt64, math.MaxInt64 + 1, top - 1, top}
	for _, at := range epochs {
		for _, epoch := range epochs {
			p := of(t, 1)
			installs(t, p, 0, at)
			retires(t, p, ref(5), epoch, 0)
			if epoch <= at {
				sweeps(t, p, 0, ref(5))
				continue
			}
			sweeps(t, p, 1)
			installs(t, p, 0, epoch-1)
			sweeps(t, p, 1)
			installs(t, p, 0, epoch)
			sweeps(t, p, 0, ref(5))
		}
	}
}

// A Ref is only told again, be there such a slot or not, and as often as it was retired.
func TestRetireOfEachRef(t *testing.T) {
	p := of(t, 1)
	refs := []api.Ref{{}, {Slot: 5, Turn: 1}, {Slot: -1, Turn: 1}, {Slot: 64, Turn: 0}, {Slot: math.MinInt, Turn: math.MaxUint32}, {Slot: math.MaxInt, Turn: math.MaxUint32}, {Slot: 5, Turn: 1}, {Slot: 5, Turn: 2}, {}}
	for n, r := range refs {
		retires(t, p, r, 1, n)
	}
	installs(t, p, 0, 1)
	sweeps(t, p, 0, refs...)
	retires(t, p, refs[1], 1, 0) // what was swept may be retired again
	sweeps(t, p, 0, refs[1])
}

func TestTheSameRefAtTwoEpochs(t *testing.T) {
	p := of(t, 1)
	retires(t, p, ref(5), 2, 0)
	retires(t, p, ref(5), 1, 1)
	installs(t, p, 0, 1)
	sweeps(t, p, 1, ref(5))
	installs(t, p, 0, 2)
	sweeps(t, p, 0, ref(5))
}

// Those that go and those that stay are mixed: both keep the order in which they were retired.
func TestSweepOfMixedEpochs(t *testing.T) {
	p := of(t, 2)
	installs(t, p, 0, 5)
	looks(t, p, 0, 5)
	installs(t, p, 0, 8)
	installs(t, p, 1, 6)
	for n, epoch := range []uint64{6, 5, 4, 8, 5, 7, 0, 6, 5, 1, top, 5, 6, 7, 8, 3} {
		retires(t, p, ref(n), epoch, n)
	}
	sweeps(t, p, 8, ref(1), ref(2), ref(4), ref(6), ref(8), ref(9), ref(11), ref(15)) // below 5, and at it
	retires(t, p, ref(16), 6, 8)
	leaves(t, p, 0)
	sweeps(t, p, 5, ref(0), ref(7), ref(12), ref(16))
	installs(t, p, 1, 7)
	sweeps(t, p, 3, ref(5), ref(13))
	installs(t, p, 1, 100)
	sweeps(t, p, 1, ref(3), ref(14))
	installs(t, p, 0, top)
	installs(t, p, 1, top-1)
	sweeps(t, p, 1)
	installs(t, p, 1, top)
	sweeps(t, p, 0, ref(10))
}

// In whatever way epochs below, at and behind Oldest are mixed, all that may go goes, and in order.
func TestSweepOfEachMixOfSix(t *testing.T) {
	const kinds, many = 3, 6
	for mix := range 3 * 3 * 3 * 3 * 3 * 3 {
		p := of(t, 1)
		installs(t, p, 0, 5)
		var go1, go2 []api.Ref
		for n := range many {
			epoch := uint64(4 + mix%kinds)
			mix /= kinds
			retires(t, p, ref(n), epoch, n)
			if epoch <= 5 {
				go1 = append(go1, ref(n))
			} else {
				go2 = append(go2, ref(n))
			}
		}
		sweeps(t, p, len(go2), go1...)
		installs(t, p, 0, 6)
		sweeps(t, p, 0, go2...)
	}
}

// Who looks holds back what was retired behind it, and nothing else.
func TestSweepWhileSomebodyLooks(t *testing.T) {
	p := of(t, 2)
	looks(t, p, 0, 0)
	for epoch := uint64(1); epoch <= 3; epoch++ {
		installs(t, p, 0, epoch)
		installs(t, p, 1, epoch)
		retires(t, p, ref(int(epoch)), epoch, int(epoch)-1)
		sweeps(t, p, int(epoch))
	}
	retires(t, p, ref(9), 0, 3)
	sweeps(t, p, 3, ref(9))
	leaves(t, p, 0)
	looks(t, p, 0, 3) // that one looks at the last one plays no part
	sweeps(t, p, 0, ref(1), ref(2), ref(3))
}

// Waiting is told of what waits, swept it may be or not.
func TestWaitingAtEachStep(t *testing.T) {
	p := of(t, 1)
	waits(t, p, 0)
	retires(t, p, ref(1), 0, 0)
	retires(t, p, ref(2), 1, 1)
	looks(t, p, 0, 0)
	waits(t, p, 2)
	sweeps(t, p, 1, ref(1))
	installs(t, p, 0, 1)
	waits(t, p, 1)
	sweeps(t, p, 1)
	leaves(t, p, 0)
	waits(t, p, 1)
	retires(t, p, ref(3), 1, 1)
	sweeps(t, p, 0, ref(2), ref(3))
}

func TestWhatSweepTellsIsNewMemory(t *testing.T) {
	p := of(t, 1)
	for n := range 9 {
		retires(t, p, ref(n), uint64(n%3), n)
	}
	first := p.Sweep()
	other := slices.Clone(first)
	for i := range first {
		first[i] = api.Ref{Slot: 60, Turn: 60}
	}
	first = append(first, api.Ref{Slot: 61, Turn: 61}, api.Ref{Slot: 62, Turn: 62})
	waits(t, p, 6)
	installs(t, p, 0, 1)
	second := p.Sweep()
	if want := []api.Ref{ref(1), ref(4), ref(7)}; !slices.Equal(second, want) {
		t.Fatalf("swept: %v, not %v", second, want)
	}
	if !slices.Equal(other, []api.Ref{ref(0), ref(3), ref(6)}) || first[0] != (api.Ref{Slot: 60, Turn: 60}) {
		t.Errorf("what was swept ahead: %v, %v", other, first)
	}
	second = append(second[:0], first...)
	installs(t, p, 0, 2)
	retires(t, p, ref(20), 2, 3)
	sweeps(t, p, 0, ref(2), ref(5), ref(8), ref(20))
	for n := range api.MaxSlots { // and it stays as it was told, whatever waits next
		retires(t, p, ref(30+n), 2, n)
	}
	if second[0] != (api.Ref{Slot: 60, Turn: 60}) || !slices.Equal(first[:3], slices.Repeat([]api.Ref{{Slot: 60, Turn: 60}}, 3)) {
		t.Errorf("an answer, once more wait: %v, %v", first, second)
	}
}

func TestTwoPinsAreApart(t *testing.T) {
	a, b := of(t, 2), of(t, 2)
	for worker := range 2 {
		installs(t, a, worker, 5)
	}
	oldest(t, b, 0)
	looks(t, a, 0, 5)
	looks(t, b, 0, 0)
	retires(t, a, ref(1), 5, 0)
	retires(t, b, ref(2), 5, 0)
	sweeps(t, b, 1)
	sweeps(t, a, 0, ref(1))
	for n := range api.MaxSlots {
		retires(t, a, ref(n), 6, n)
	}
	full(t, a)
	retires(t, b, ref(3), 0, 1)
	sweeps(t, b, 1, ref(3))
	leaves(t, a, 0)
	if epoch, err := b.Pin(0); epoch != 0 || err != api.ErrState {
		t.Errorf("pin: %d, error %d", epoch, err)
	}
	isAt(t, b, 1, 0)
	isAt(t, a, 1, 5)
	waits(t, a, api.MaxSlots)
}

// One that New did not make has no workers, and ends all calls as well.
func TestOneThatIsNotMade(t *testing.T) {
	var p pins.Pins
	for _, worker := range []int{0, 1, -1, 4} {
		strangers(t, &p, worker)
	}
	oldest(t, &p, 0)
	waits(t, &p, 0)
	p.Retire(ref(1), 5)
	p.Sweep()
}

// P16.3

// plain is pins written plainly: the epochs that each worker looks at and is at, and all that was ever retired, in order.
type plain struct {
	at, sees []uint64
	looks    []bool
	all      []thing
}

type thing struct {
	ref   api.Ref
	epoch uint64
	swept bool
}

func (m *plain) install(worker int, epoch uint64) api.Errno {
	switch {
	case worker < 0 || worker >= len(m.at):
		return api.ErrArg
	case epoch < m.at[worker]:
		return api.ErrState
	}
	m.at[worker] = epoch
	return api.OK
}

func (m *plain) pin(worker int) (uint64, api.Errno) {
	switch {
	case worker < 0 || worker >= len(m.at):
		return 0, api.ErrArg
	case m.looks[worker]:
		return 0, api.ErrState
	}
	m.looks[worker], m.sees[worker] = true, m.at[worker]
	return m.at[worker], api.OK
}

func (m *plain) unpin(worker int) api.Errno {
	switch {
	case worker < 0 || worker >= len(m.at):
		return api.ErrArg
	case !m.looks[worker]:
		return api.ErrState
	}
	m.looks[worker] = false
	return api.OK
}

// epochs are all that workers are at, or look at.
func (m *plain) epochs() []uint64 {
	all := slices.Clone(m.at)
	for worker, looks := range m.looks {
		if looks {
			all = append(all, m.sees[worker])
		}
	}
	return all
}

func (m *plain) retire(r api.Ref, epoch uint64) api.Errno {
	if m.waiting() == 64 {
		return api.ErrFull
	}
	m.all = append(m.all, thing{ref: r, epoch: epoch})
	return api.OK
}

func (m *plain) sweep() []api.Ref {
	var refs []api.Ref
	for i, x := range m.all {
		if !x.swept && x.epoch <= slices.Min(m.epochs()) {
			m.all[i].swept = true
			refs = append(refs, x.ref)
		}
	}
	return refs
}

func (m *plain) waiting() int {
	n := 0
	for _, x := range m.all {
		if !x.swept {
			n++
		}
	}
	return n
}

// pair is pins and a plain one that go on alike.
type pair struct {
	p *pins.Pins
	m *plain
}

func pairOf(t *testing.T, workers int) pair {
	t.Helper()
	return pair{of(t, workers), &plain{at: make([]uint64, workers), sees: make([]uint64, workers), looks: make([]bool, workers)}}
}

func (b pair) install(t *testing.T, worker int, epoch uint64) {
	t.Helper()
	if got, want := b.p.Install(worker, epoch), b.m.install(worker, epoch); got != want {
		t.Fatalf("install of %d by worker %d: error %d, not %d", epoch, worker, got, want)
	}
}

func (b pair) pin(t *testing.T, worker int) {
	t.Helper()
	got, err := b.p.Pin(worker)
	if want, e := b.m.pin(worker); got != want || err != e {
		t.Fatalf("pin by worker %d: %d, error %d, not %d, error %d", worker, got, err, want, e)
	}
}

func (b pair) unpin(t *testing.T, worker int) {
	t.Helper()
	if got, want := b.p.Unpin(worker), b.m.unpin(worker); got != want {
		t.Fatalf("unpin by worker %d: error %d, not %d", worker, got, want)
	}
}

func (b pair) retire(t *testing.T, r api.Ref, epoch uint64) {
	t.Helper()
	if got, want := b.p.Retire(r, epoch), b.m.retire(r, epoch); got != want {
		t.Fatalf("retire of %v at %d: error %d, not %d", r, epoch, got, want)
	}
}

func (b pair) sweep(t *testing.T) {
	t.Helper()
	if got, want := b.p.Sweep(), b.m.sweep(); !slices.Equal(got, want) {
		t.Fatalf("swept: %v, not %v", got, want)
	}
}

// alike holds them against each other.
func (b pair) alike(t *testing.T) {
	t.Helper()
	if got, want := b.p.Oldest(), slices.Min(b.m.epochs()); got != want {
		t.Fatalf("oldest: %d, not %d", got, want)
	}
	if got, want := b.p.Waiting(), b.m.waiting(); got != want {
		t.Fatalf("%d wait, not %d", got, want)
	}
}

// drain lets all go on until nothing waits, and tells whether each was at what it should be.
func (b pair) drain(t *testing.T) {
	t.Helper()
	b.sweep(t)
	for worker := range b.m.at {
		b.unpin(t, worker)
		b.pin(t, worker)
		b.unpin(t, worker)
		b.sweep(t)
		b.alike(t)
	}
	for worker := range b.m.at {
		b.install(t, worker, top)
	}
	b.sweep(t)
	b.alike(t)
}

// Two workers go on by one, look, and look no more; something is retired at the epoch behind the latest one, or at that itself; what may go is swept.
func TestEachWayOfFewSteps(t *testing.T) {
	const kinds, steps = 9, 5
	ways := 1
	for range steps {
		ways *= kinds
	}
	for way := range ways {
		b := pairOf(t, 2)
		for i := range steps {
			what := way % kinds
			way /= kinds
			worker := what % 2
			latest := slices.Max(b.m.at)
			switch what {
			case 0, 1:
				b.install(t, worker, b.m.at[worker]+1)
			case 2, 3:
				b.pin(t, worker)
			case 4, 5:
				b.unpin(t, worker)
			case 6, 7:
				b.retire(t, ref(i), latest+uint64(worker))
			case 8:
				b.sweep(t)
			}
			b.alike(t)
		}
		b.drain(t)
	}
}

func TestManySteps(t *testing.T) {
	chance := rand.New(rand.NewPCG(16, 3))
	for i := range 300 {
		workers := 1 + i%4
		b := pairOf(t, workers)
		rare := 1 + chance.IntN(12) // of so many steps one sweeps
		epoch := uint64(0)
		if i%3 == 1 {
			epoch = math.MaxInt64 - 50
		} else if i%3 == 2 {
			epoch = top - 300
		}
		for n := range 400 {
			worker := chance.IntN(workers+2) - 1
			near := epoch + uint64(chance.IntN(9))
			switch chance.IntN(6) {
			case 0:
				b.install(t, worker, near-min(near, 5))
				epoch += uint64(chance.IntN(2))
			case 1, 2:
				b.pin(t, worker)
			case 3:
				b.unpin(t, worker)
			default:
				b.retire(t, ref(n), near)
			}
			if chance.IntN(rare) == 0 {
				b.sweep(t)
			}
			b.alike(t)
		}
		b.drain(t)
	}
}

// However all calls are mixed, what is swept is told once, of what was retired, and nobody is at, or looks at, an epoch below, nor will be.
func TestWhatIsSweptIsToldOnce(t *testing.T) {
	chance := rand.New(rand.NewPCG(16, 4))
	for workers := 1; workers <= api.MaxShards; workers++ {
		p := of(t, workers)
		waiting := map[api.Ref]uint64{} // and at which epoch each was retired
		at := make([]uint64, workers)
		sees := map[int]uint64{}
		floor, swept := uint64(0), 0
		for n := range 40000 {
			worker := chance.IntN(workers)
			switch chance.IntN(6) {
			case 0:
				if next := at[worker] + uint64(chance.IntN(4)); p.Install(worker, next) == api.OK {
					at[worker] = next
				}
			case 1:
				if epoch, err := p.Pin(worker); err == api.OK {
					sees[worker] = epoch
					if epoch < floor {
						t.Fatalf("worker %d looks at %d; what was retired at %d is gone", worker, epoch, floor)
					}
				}
			case 2, 3:
				if p.Unpin(worker) == api.OK {
					delete(sees, worker)
				}
			case 4:
				if epoch := at[worker] + uint64(chance.IntN(6)); p.Retire(ref(n), epoch) == api.OK {
					waiting[ref(n)] = epoch
				}
			case 5:
				for _, r := range p.Sweep() {
					epoch, ok := waiting[r]
					if !ok {
						t.Fatalf("%v is swept, and does not wait", r)
					}
					delete(waiting, r)
					swept++
					floor = max(floor, epoch)
					inUse(t, r, epoch, at, sees)
				}
			}
			waits(t, p, len(waiting))
			if p.Oldest() < floor {
				t.Fatalf("oldest: %d; what was retired at %d is gone", p.Oldest(), floor)
			}
		}
		if swept < 1000 {
			t.Errorf("%d workers: only %d were swept", workers, swept)
		}
	}
}

// inUse fails, if somebody is at, or looks at, an epoch below the one that something swept was retired at.
func inUse(t *testing.T, r api.Ref, epoch uint64, at []uint64, sees map[int]uint64) {
	t.Helper()
	for worker := range at {
		if at[worker] < epoch {
			t.Fatalf("%v was retired at %d, and is swept; worker %d is at %d", r, epoch, worker, at[worker])
		}
		if seen, looks := sees[worker]; looks && seen < epoch {
			t.Fatalf("%v was retired at %d, and is swept; worker %d looks at %d", r, epoch, worker, seen)
		}
	}
}

func ExamplePins() {
	p := pins.New(1)
	p.Pin(0)
	p.Install(0, 1)
	p.Retire(api.Ref{Slot: 5, Turn: 1}, 1)
	fmt.Println(p.Sweep(), p.Waiting())
	p.Unpin(0)
	fmt.Println(p.Sweep(), p.Waiting())
	// Output:
	// [] 1
	// [{5 1}] 0
}
