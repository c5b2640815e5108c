package batch_test

import (
	"bytes"
	"crypto/sha256"
	"slices"
	"strconv"
	"testing"

	"onionskin/api"
	"onionskin/batch"
	"onionskin/digest"
	"onionskin/store"
)

// putter is a store, or a batch.
type putter interface {
	Put(b []byte) (api.Digest, api.Errno)
}

// put puts blobs, each of which must be taken.
func put(t *testing.T, p putter, blobs ...string) {
	t.Helper()
	for _, b := range blobs {
		if d, err := p.Put([]byte(b)); d != sum(b) || err != api.OK {
			t.Fatalf("put %q: %x, %v", b, d, err)
		}
	}
}

// having is a store of that room with these blobs.
func having(t *testing.T, room int, blobs ...string) *store.Store {
	t.Helper()
	s := store.New(room)
	put(t, s, blobs...)
	return s
}

// refused tells t where b does not refuse x, for lack of room, or where it is another batch then.
func refused(t *testing.T, b *batch.Batch, x string) {
	t.Helper()
	staged := b.Staged()
	if d, err := b.Put([]byte(x)); d != (api.Digest{}) || err != api.ErrFull {
		t.Errorf("put %q: %x, %v", x, d, err)
	}
	if !slices.Equal(b.Staged(), staged) {
		t.Errorf("put %q: refused, but %x is staged", x, b.Staged())
	}
	lacks(t, b, sum(x))
}

// stages tells t where b has not just these blobs staged, in this order.
func stages(t *testing.T, b *batch.Batch, blobs ...string) {
	t.Helper()
	if got := b.Staged(); !slices.Equal(got, sums(blobs)) {
		t.Errorf("staged %x, not %x", got, sums(blobs))
	}
	gives(t, b, blobs...)
}

// gives tells t where b has not these blobs, staged or not.
func gives(t *testing.T, b *batch.Batch, blobs ...string) {
	t.Helper()
	for _, x := range blobs {
		if got, ok := b.Get(sum(x)); !ok || string(got) != x {
			t.Errorf("%q: %q, %t", x, got, ok)
		}
	}
}

// lacks tells t where b has a blob of d.
func lacks(t *testing.T, b *batch.Batch, d api.Digest) {
	t.Helper()
	if got, ok := b.Get(d); ok || len(got) != 0 {
		t.Errorf("%x: %q, %t", d, got, ok)
	}
}

// holds tells t where s has not just these blobs, each once.
func holds(t *testing.T, s *store.Store, blobs ...string) {
	t.Helper()
	used := 0
	for _, b := range blobs {
		used += len(b)
		if got, ok := s.Get(sum(b)); !ok || string(got) != b {
			t.Errorf("store: %q: %q, %t", b, got, ok)
		}
	}
	if got := s.Keys(); len(got) != len(blobs) || s.Used() != used {
		t.Errorf("store: %d blobs of %d bytes, not %d of %d", len(got), s.Used(), len(blobs), used)
	}
}

// over tells t where b, of the store s, is not over: each call must tell so, and do nothing.
func over(t *testing.T, b *batch.Batch, s *store.Store, blobs ...string) {
	t.Helper()
	keys, used := s.Keys(), s.Used()
	for _, x := range append(blobs, "", "new") {
		if d, err := b.Put([]byte(x)); d != (api.Digest{}) || err != api.ErrClosed {
			t.Errorf("over: put %q: %x, %v", x, d, err)
		}
		lacks(t, b, sum(x))
	}
	lacks(t, b, api.Digest{})
	if got := b.Staged(); len(got) != 0 {
		t.Errorf("over: staged %x", got)
	}
	if err := b.Commit(); err != api.ErrClosed {
		t.Errorf("over: commit: %v", err)
	}
	b.Discard()
	if err := b.Commit(); err != api.ErrClosed {
		t.Errorf("over, and discarded: commit: %v", err)
	}
	if !slices.Equal(s.Keys(), keys) || s.Used() != used {
		t.Errorf("over, but the store is another one")
	}
}

// commits commits b, which must be done, and tells t where it is not over then.
func commits(t *testing.T, b *batch.Batch, s *store.Store) {
	t.Helper()
	if err := b.Commit(); err != api.OK {
		t.Fatalf("commit: %v", err)
	}
	over(t, b, s)
}

// fails commits b, which must be refused for lack of room, and tells t where anything changes.
func fails(t *testing.T, b *batch.Batch, s *store.Store, staged ...string) {
	t.Helper()
	keys, used := s.Keys(), s.Used()
	if err := b.Commit(); err != api.ErrFull {
		t.Errorf("commit: %v", err)
	}
	if !slices.Equal(s.Keys(), keys) || s.Used() != used {
		t.Errorf("commit: refused, but the store is another one")
	}
	stages(t, b, staged...)
}

func sum(b string) api.Digest { return api.Digest(sha256.Sum256([]byte(b))) }

func sums(blobs []string) []api.Digest {
	var all []api.Digest
	for _, b := range blobs {
		all = append(all, sum(b))
	}
	return all
}

// P4.1, P4.2
func TestNewHasNothingStaged(t *testing.T) {
	s := having(t, 10, "abc")
	b := batch.New(s)
	stages(t, b)
	gives(t, b, "abc")
	lacks(t, b, sum(""))
	lacks(t, b, api.Digest{})
	holds(t, s, "abc")
}

// P4.1, P4.2, P4.5
func TestPut(t *testing.T) {
	s := having(t, 100, "abc")
	b := batch.New(s)
	put(t, b, "xyz")
	stages(t, b, "xyz")
	put(t, b, "abd", "", "\x00\xff\n", "ab")
	stages(t, b, "xyz", "abd", "", "\x00\xff\n", "ab")
	gives(t, b, "abc")
	holds(t, s, "abc")
	if d, _ := b.Put([]byte("xyz")); d != digest.Of([]byte("xyz")) {
		t.Errorf("another digest: %x", d)
	}
}

// P4.1, W5: nil and no bytes are one blob, which needs no room.
func TestPutOfNoBytes(t *testing.T) {
	for _, x := range [][]byte{nil, {}, make([]byte, 0, 5)} {
		s := store.New(0)
		b := batch.New(s)
		if d, err := b.Put(x); d != sum("") || err != api.OK {
			t.Errorf("%x, %v", d, err)
		}
		put(t, b, "")
		stages(t, b, "")
		holds(t, s)
		commits(t, b, s)
		holds(t, s, "")
	}
}

// P4.1: a blob that just fits, and one byte more: alone, beside the store's, beside what is staged, beside both.
func TestPutThatJustFits(t *testing.T) {
	for _, room := range []int{3, 4, 64, 1000} {
		whole := string(bytes.Repeat([]byte("x"), room))
		b := batch.New(store.New(room))
		refused(t, b, whole+"x")
		put(t, b, whole)
		refused(t, b, "y")
		put(t, b, "")
		stages(t, b, whole, "")

		b = batch.New(having(t, room, whole[1:]))
		refused(t, b, "yz")
		put(t, b, "y")
		refused(t, b, "z")
		stages(t, b, "y")

		b = batch.New(store.New(room))
		put(t, b, whole[1:])
		refused(t, b, "yz")
		put(t, b, "y")
		refused(t, b, "z")
		stages(t, b, whole[1:], "y")

		b = batch.New(having(t, room, whole[2:]))
		put(t, b, "y")
		refused(t, b, "zz")
		put(t, b, "z")
		refused(t, b, "a")
		stages(t, b, "y", "z")
	}
}

// P4.1: what is refused leaves room for what is smaller.
func TestPutBehindARefusal(t *testing.T) {
	s := store.New(5)
	b := batch.New(s)
	put(t, b, "abc")
	refused(t, b, "xyz")
	refused(t, b, "abcdefghij")
	put(t, b, "xy")
	stages(t, b, "abc", "xy")
	commits(t, b, s)
	holds(t, s, "abc", "xy")
}

// P4.1: for a digest that is in the store no room is asked, nor is it staged.
func TestPutOfWhatTheStoreHas(t *testing.T) {
	s := having(t, 3, "abc", "")
	b := batch.New(s)
	put(t, b, "abc", "", "abc")
	stages(t, b)
	refused(t, b, "x")
	commits(t, b, s)
	holds(t, s, "abc", "")
}

// P4.1: for a digest that is staged no room is asked, nor is it staged twice.
func TestPutOfWhatIsStaged(t *testing.T) {
	s := store.New(5)
	b := batch.New(s)
	put(t, b, "abc", "abc", "xy", "abc", "xy")
	stages(t, b, "abc", "xy")
	refused(t, b, "z")
	put(t, b, "", "xy", "")
	stages(t, b, "abc", "xy", "")
	commits(t, b, s)
	holds(t, s, "abc", "xy", "")
}

// P4.1: the room is what others left by the time of the call.
func TestPutBesideOthers(t *testing.T) {
	s := store.New(6)
	b := batch.New(s)
	put(t, b, "ab")
	put(t, s, "xyz")
	refused(t, b, "cd")
	put(t, b, "c")
	refused(t, b, "d")
	put(t, b, "xyz")
	stages(t, b, "ab", "c")
	gives(t, b, "xyz")
	commits(t, b, s)
	holds(t, s, "xyz", "ab", "c")
}

// P4.1: of what is staged all counts, also what others have put into the store since.
func TestPutCountsAllThatIsStaged(t *testing.T) {
	s := store.New(6)
	b := batch.New(s)
	put(t, b, "ab")
	put(t, s, "ab")
	refused(t, b, "cde")
	put(t, b, "cd", "ab")
	refused(t, b, "e")
	stages(t, b, "ab", "cd")
	commits(t, b, s)
	holds(t, s, "ab", "cd")
}

// P4.1: of a store that others filled beyond what is staged, even a blob of no bytes is one too many, but not what is there.
func TestPutIntoLessThanNoRoom(t *testing.T) {
	s := store.New(4)
	b := batch.New(s)
	put(t, b, "ab")
	put(t, s, "xyz")
	refused(t, b, "")
	refused(t, b, "c")
	put(t, b, "ab", "xyz")
	stages(t, b, "ab")
	fails(t, b, s, "ab")
}

// P4.1: a store without room, and one with the most.
func TestPutAtTheEndsOfRoom(t *testing.T) {
	for _, room := range []int{api.MinInt, -1, 0} {
		b := batch.New(store.New(room))
		refused(t, b, "a")
		put(t, b, "")
		stages(t, b, "")
	}
	s := store.New(api.MaxInt)
	b := batch.New(s)
	put(t, b, "a", "bc")
	commits(t, b, s)
	holds(t, s, "a", "bc")
}

// P4.2: blobs of the store, of whichever time, and near digests of none.
func TestGet(t *testing.T) {
	s := having(t, 100, "in the store", "")
	b := batch.New(s)
	lacks(t, b, sum("later"))
	put(t, b, "staged")
	put(t, s, "later")
	gives(t, b, "in the store", "", "staged", "later")
	lacks(t, b, api.Digest{})
	lacks(t, b, sum("store"))
	for _, x := range []string{"staged", "in the store"} {
		d := sum(x)
		for k := range d {
			near := d
			near[k] ^= 1
			lacks(t, b, near)
		}
	}
}

// P4.2: in the order in which they were staged, each once, neither by digest nor by bytes.
func TestStagedIsInOrder(t *testing.T) {
	var blobs []string
	for k := range 200 {
		blobs = append(blobs, strconv.Itoa(k))
	}
	s := store.New(1000)
	up, down := batch.New(s), batch.New(s)
	for k := range blobs {
		put(t, up, blobs[k], blobs[k/2])
		put(t, down, blobs[len(blobs)-1-k])
	}
	stages(t, up, blobs...)
	slices.Reverse(blobs)
	stages(t, down, blobs...)
}

// P4.2: what others put into the store since stays staged, at its place.
func TestStagedStays(t *testing.T) {
	s := store.New(100)
	b := batch.New(s)
	put(t, b, "a", "b")
	put(t, s, "a")
	put(t, b, "a", "c")
	stages(t, b, "a", "b", "c")
	holds(t, s, "a")
}

// P4.3, P4.5
func TestCommit(t *testing.T) {
	s := having(t, 100, "abc")
	b := batch.New(s)
	put(t, b, "xyz", "", "abc", "ab")
	holds(t, s, "abc")
	if err := b.Commit(); err != api.OK {
		t.Fatal(err)
	}
	holds(t, s, "abc", "xyz", "", "ab")
	over(t, b, s, "abc", "xyz", "", "ab")
	holds(t, s, "abc", "xyz", "", "ab")
}

// P4.3: a batch of nothing, of an empty store and of a full one, is done and over.
func TestCommitOfNothing(t *testing.T) {
	for _, s := range []*store.Store{store.New(0), store.New(5), having(t, 3, "abc")} {
		used := s.Used()
		commits(t, batch.New(s), s)
		if s.Used() != used {
			t.Errorf("%d bytes, not %d", s.Used(), used)
		}
	}
}

// P4.3: a store into which others have put: what just fits, and one byte more.
func TestCommitBesideOthers(t *testing.T) {
	for _, others := range []string{"", "u", "uv", "uvw", "uvwx"} {
		s := having(t, 7, "s")
		b := batch.New(s)
		put(t, b, "ab", "c")
		put(t, s, others)
		if len(others) < 4 {
			commits(t, b, s)
			holds(t, s, "s", others, "ab", "c")
			continue
		}
		fails(t, b, s, "ab", "c")
		holds(t, s, "s", others)
	}
}

// P4.3: what others have put of what is staged need not be brought in, nor has it room asked.
func TestCommitHasLessToBringIn(t *testing.T) {
	s := store.New(6)
	b := batch.New(s)
	put(t, b, "ab", "cd", "ef")
	put(t, s, "cd")
	commits(t, b, s)
	holds(t, s, "ab", "cd", "ef")

	s = store.New(6)
	b = batch.New(s)
	put(t, b, "ab", "cd", "ef")
	put(t, s, "ef", "ab", "cd")
	stages(t, b, "ab", "cd", "ef")
	commits(t, b, s)
	holds(t, s, "ab", "cd", "ef")

	s = store.New(6)
	b = batch.New(s)
	put(t, b, "ab", "cd")
	put(t, s, "cd", "wxy")
	fails(t, b, s, "ab", "cd")
	holds(t, s, "cd", "wxy")
}

// P4.3: nothing comes in of a batch that is refused, not what would fit either.
func TestCommitBringsAllOrNothing(t *testing.T) {
	s := store.New(6)
	b := batch.New(s)
	put(t, b, "a", "", "b", "cdef")
	put(t, s, "z")
	fails(t, b, s, "a", "", "b", "cdef")
	holds(t, s, "z")
	put(t, b, "a", "z")
	refused(t, b, "c")
	fails(t, b, s, "a", "", "b", "cdef")
	b.Discard()
	over(t, b, s, "a", "z")
	holds(t, s, "z")
}

// P4.3: what was refused may be tried again, and comes in where there is room. (A store never gets room of itself: another one is laid in its place.)
func TestCommitAgain(t *testing.T) {
	s := store.New(5)
	b := batch.New(s)
	put(t, b, "abc", "d")
	put(t, s, "xy")
	fails(t, b, s, "abc", "d")
	fails(t, b, s, "abc", "d")
	*s = *having(t, 9, "xy")
	put(t, b, "efg")
	stages(t, b, "abc", "d", "efg")
	commits(t, b, s)
	holds(t, s, "xy", "abc", "d", "efg")
}

// P4.3
func TestDiscard(t *testing.T) {
	s := having(t, 10, "abc")
	b := batch.New(s)
	put(t, b, "xyz", "")
	b.Discard()
	holds(t, s, "abc")
	over(t, b, s, "abc", "xyz", "")
	holds(t, s, "abc")

	b = batch.New(s)
	b.Discard()
	over(t, b, s, "abc")
	put(t, s, "later")
	over(t, b, s, "abc", "later")
	holds(t, s, "abc", "later")
}

// P4.1 to P4.3: of several errors ErrClosed is told.
func TestOverIsToldAheadOfFull(t *testing.T) {
	s := having(t, 3, "abc")
	b := batch.New(s)
	b.Discard()
	over(t, b, s, "abc", "far too much for the store")
}

// P4.1 to P4.3: batches of one store see what came in, and nothing that others staged.
func TestBatchesOfOneStore(t *testing.T) {
	s := store.New(6)
	a, b, c := batch.New(s), batch.New(s), batch.New(s)
	put(t, a, "ab", "cd")
	put(t, b, "cd", "ef")
	put(t, c, "uvwxyz")
	lacks(t, a, sum("ef"))
	lacks(t, b, sum("ab"))
	commits(t, a, s)
	stages(t, b, "cd", "ef")
	gives(t, b, "ab")
	commits(t, b, s)
	fails(t, c, s, "uvwxyz")
	holds(t, s, "ab", "cd", "ef")
}

// P4.1, P3.4: a batch is one of its store, not of a copy.
func TestBatchOfACopy(t *testing.T) {
	s := having(t, 10, "abc")
	c := s.Copy()
	b := batch.New(c)
	put(t, b, "xyz")
	commits(t, b, c)
	holds(t, s, "abc")
	holds(t, c, "abc", "xyz")
}

// P4.4, W6: what is handed in is neither kept nor changed, nor its spare room.
func TestPutKeepsNothing(t *testing.T) {
	s := store.New(100)
	b := batch.New(s)
	all := []byte("abcdef")
	if d, err := b.Put(all[:3]); d != sum("abc") || err != api.OK {
		t.Fatalf("%x, %v", d, err)
	}
	if string(all) != "abcdef" {
		t.Errorf("changed: %q", all)
	}
	all[0] = 'z'
	stages(t, b, "abc")
	b.Put(all[:3])
	all[1] = 'z'
	stages(t, b, "abc", "zbc")
	commits(t, b, s)
	holds(t, s, "abc", "zbc")
	if string(all) != "zzcdef" {
		t.Errorf("changed: %q", all)
	}
}

// P4.4, W6: what is answered is new memory, spare room too.
func TestAnswersAreNew(t *testing.T) {
	s := having(t, 100, "store")
	b := batch.New(s)
	put(t, b, "abc", "xy", "")
	for range 2 {
		for _, x := range []string{"abc", "xy", "", "store"} {
			got, _ := b.Get(sum(x))
			got = got[:cap(got)]
			for k := range got {
				got[k] = 'z'
			}
		}
		staged := b.Staged()
		clear(staged[:cap(staged)])
		stages(t, b, "abc", "xy", "")
		gives(t, b, "store")
	}
	kept, _ := b.Get(sum("abc"))
	staged := b.Staged()
	commits(t, b, s)
	if string(kept) != "abc" || !slices.Equal(staged, sums([]string{"abc", "xy", ""})) {
		t.Errorf("behind the commit: %q, %x", kept, staged)
	}
	kept[0] = 'z'
	holds(t, s, "store", "abc", "xy", "")
}

// P4.4: what is added to an answer, in its spare room, is not seen in another.
func TestAnswersAreApart(t *testing.T) {
	b := batch.New(store.New(100))
	put(t, b, "abc", "d", "e")
	x, _ := b.Get(sum("abc"))
	y, _ := b.Get(sum("abc"))
	x, y = append(x, '1'), append(y, '2')
	if string(x) != "abc1" || string(y) != "abc2" {
		t.Errorf("%q, %q", x, y)
	}
	k, l := b.Staged(), b.Staged()
	k, l = append(k, sum("1")), append(l, sum("2"))
	put(t, b, "f")
	if k[3] != sum("1") || l[3] != sum("2") {
		t.Errorf("%x, %x", k, l)
	}
	stages(t, b, "abc", "d", "e", "f")
}

// model is a batch and its store as their chapters tell of them, told in the simplest way.
type model struct {
	there  []string
	staged []string
	room   int
	over   bool
}

// total is how many bytes blobs have.
func total(blobs []string) int {
	n := 0
	for _, b := range blobs {
		n += len(b)
	}
	return n
}

// put is the error of the batch's Put of x.
func (m *model) put(x string) api.Errno {
	if m.over {
		return api.ErrClosed
	}
	if slices.Contains(m.there, x) || slices.Contains(m.staged, x) {
		return api.OK
	}
	if total(m.there)+total(m.staged)+len(x) > m.room {
		return api.ErrFull
	}
	m.staged = append(m.staged, x)
	return api.OK
}

// others is what comes of a Put of x into the store.
func (m *model) others(x string) {
	if !slices.Contains(m.there, x) && total(m.there)+len(x) <= m.room {
		m.there = append(m.there, x)
	}
}

// commit is the error of the batch's Commit.
func (m *model) commit() api.Errno {
	if m.over {
		return api.ErrClosed
	}
	all := slices.Clone(m.there)
	for _, x := range m.staged {
		if !slices.Contains(all, x) {
			all = append(all, x)
		}
	}
	if total(all) > m.room {
		return api.ErrFull
	}
	m.there, m.staged, m.over = all, nil, true
	return api.OK
}

// same tells t where s and b are others than m.
func (m *model) same(t *testing.T, s *store.Store, b *batch.Batch) {
	t.Helper()
	holds(t, s, m.there...)
	stages(t, b, m.staged...)
	for _, x := range m.there {
		if m.over {
			lacks(t, b, sum(x))
		} else {
			gives(t, b, x)
		}
	}
}

// P4.1 to P4.5, W1: any blobs, staged and put by others, in any order, in batches one behind the other.
func FuzzBatch(f *testing.F) {
	f.Add(5, []byte("\x03abc\x13xyz\x02xy\x03abc\xf0\x01z\xf2\x01z\xf0"))
	f.Add(-1, []byte("\x00\x01a\xf1\x00\xf0\xf2\xf0"))
	f.Add(8, []byte("\x02ab\x12ab\x04wxyz\x02cd\x01e\xf0\xf2\x13uvw\xf0\xf1\xf1"))
	f.Fuzz(func(t *testing.T, room int, does []byte) {
		m := model{room: min(max(room, 0), 1<<30)}
		s := store.New(room)
		b := batch.New(s)
		for len(does) > 0 {
			what := does[0]
			does = does[1:]
			switch what {
			case 0xf0:
				if want, err := m.commit(), b.Commit(); err != want {
					t.Fatalf("commit: %v, not %v", err, want)
				}
			case 0xf1:
				m.staged, m.over = nil, true
				b.Discard()
			case 0xf2:
				m.staged, m.over = nil, false
				b = batch.New(s)
			default:
				x := string(does[:min(int(what%16), len(does))])
				does = does[len(x):]
				if what&16 != 0 {
					m.others(x)
					s.Put([]byte(x))
					break
				}
				d := sum(x)
				want := m.put(x)
				if want != api.OK {
					d = api.Digest{}
				}
				if got, err := b.Put([]byte(x)); got != d || err != want {
					t.Fatalf("put %q: %x, %v, not %v", x, got, err, want)
				}
			}
			m.same(t, s, b)
		}
	})
}
