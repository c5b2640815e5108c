package store_test

import (
	"bytes"
	"crypto/sha256"
	"slices"
	"strconv"
	"testing"

	"onionskin/api"
	"onionskin/digest"
	"onionskin/store"
)

// put puts blobs, each of which must come in.
func put(t *testing.T, s *store.Store, blobs ...string) {
	t.Helper()
	for _, b := range blobs {
		if d, err := s.Put([]byte(b)); d != sum(b) || err != api.OK {
			t.Fatalf("put %q: %x, %v", b, d, err)
		}
	}
}

// refused tells t where b comes in, or where anything is told or done beside the error.
func refused(t *testing.T, s *store.Store, b string) {
	t.Helper()
	keys, used := s.Keys(), s.Used()
	if d, err := s.Put([]byte(b)); d != (api.Digest{}) || err != api.ErrFull {
		t.Errorf("put %q: %x, %v", b, d, err)
	}
	if !slices.Equal(s.Keys(), keys) || s.Used() != used || s.Has(sum(b)) {
		t.Errorf("put %q: refused, but the store is another one", b)
	}
}

// holds tells t where s has not just these blobs, each once, or another room.
func holds(t *testing.T, s *store.Store, room int, blobs ...string) {
	t.Helper()
	var keys []api.Digest
	used := 0
	for _, b := range blobs {
		d := sum(b)
		keys = append(keys, d)
		used += len(b)
		got, ok := s.Get(d)
		if !ok || string(got) != b || !s.Has(d) || s.Size(d) != len(b) {
			t.Errorf("%q: %q, %t, has %t, size %d", b, got, ok, s.Has(d), s.Size(d))
		}
	}
	slices.SortFunc(keys, func(a, b api.Digest) int { return bytes.Compare(a[:], b[:]) })
	if got := s.Keys(); !slices.Equal(got, keys) {
		t.Errorf("keys %x, not %x", got, keys)
	}
	if s.Used() != used || s.Room() != room {
		t.Errorf("%d of %d used, not %d of %d", s.Used(), s.Room(), used, room)
	}
}

// lacks tells t where s has a blob of d.
func lacks(t *testing.T, s *store.Store, d api.Digest) {
	t.Helper()
	if b, ok := s.Get(d); ok || len(b) != 0 || s.Has(d) || s.Size(d) != -1 {
		t.Errorf("%x: %q, %t, has %t, size %d", d, b, ok, s.Has(d), s.Size(d))
	}
}

func sum(b string) api.Digest { return api.Digest(sha256.Sum256([]byte(b))) }

// P3.1
func TestNewIsEmpty(t *testing.T) {
	for _, room := range []int{0, 1, 1000} {
		s := store.New(room)
		holds(t, s, room)
		lacks(t, s, sum(""))
		lacks(t, s, api.Digest{})
	}
}

// P3.1: a room below 0, and one above 2^30.
func TestRoomIsClamped(t *testing.T) {
	const most = 1 << 30
	for _, c := range [][2]int{
		{api.MinInt, 0}, {-most, 0}, {-2, 0}, {-1, 0}, {0, 0}, {1, 1}, {2, 2}, {512, 512},
		{most - 1, most - 1}, {most, most}, {most + 1, most}, {2 * most, most}, {1<<32 + 5, most}, {api.MaxInt, most},
	} {
		if got := store.New(c[0]).Room(); got != c[1] {
			t.Errorf("%d: %d, not %d", c[0], got, c[1])
		}
	}
}

// P3.1, P3.2: what is clamped to 0 has room for no byte, but for a blob of none.
func TestPutBelowRoomZero(t *testing.T) {
	for _, room := range []int{api.MinInt, -1, 0} {
		s := store.New(room)
		refused(t, s, "a")
		put(t, s, "")
		refused(t, s, "a")
		holds(t, s, 0, "")
	}
}

// P3.2
func TestPut(t *testing.T) {
	s := store.New(100)
	put(t, s, "abc")
	holds(t, s, 100, "abc")
	put(t, s, "", "abd", "ab", "\x00\xff\n")
	holds(t, s, 100, "abc", "", "abd", "ab", "\x00\xff\n")
	if d, _ := s.Put([]byte("abc")); d != digest.Of([]byte("abc")) {
		t.Errorf("another digest: %x", d)
	}
}

// P3.2, W5: nil and no bytes are one blob, which needs no room.
func TestPutOfNoBytes(t *testing.T) {
	for _, b := range [][]byte{nil, {}, make([]byte, 0, 5)} {
		s := store.New(0)
		if d, err := s.Put(b); d != sum("") || err != api.OK {
			t.Errorf("%x, %v", d, err)
		}
		put(t, s, "")
		holds(t, s, 0, "")
	}
}

// P3.2: a blob that just fits, and one byte more.
func TestPutThatJustFits(t *testing.T) {
	for _, room := range []int{1, 2, 3, 64, 1000} {
		whole := string(bytes.Repeat([]byte("x"), room))
		s := store.New(room)
		refused(t, s, whole+"x")
		put(t, s, whole)
		holds(t, s, room, whole)
		refused(t, s, "y")

		s = store.New(room)
		put(t, s, whole[1:])
		refused(t, s, "yz")
		put(t, s, "y")
		holds(t, s, room, whole[1:], "y")
		refused(t, s, "z")
	}
}

// P3.2: the example of the chapter.
func TestPutOfTwoIntoOne(t *testing.T) {
	s := store.New(1)
	refused(t, s, "ab")
	holds(t, s, 1)
}

// P3.2: what is refused leaves room for what is smaller.
func TestPutBehindARefusal(t *testing.T) {
	s := store.New(5)
	put(t, s, "abc")
	refused(t, s, "xyz")
	refused(t, s, "abcdefghij")
	put(t, s, "xy")
	refused(t, s, "z")
	put(t, s, "")
	holds(t, s, 5, "abc", "xy", "")
}

// P3.2: for a digest that is there no room is asked, nor taken.
func TestPutOfWhatIsThere(t *testing.T) {
	s := store.New(3)
	put(t, s, "abc", "abc", "abc")
	holds(t, s, 3, "abc")

	s = store.New(5)
	put(t, s, "abc", "abc", "", "")
	holds(t, s, 5, "abc", "")
	put(t, s, "xy", "abc", "xy")
	refused(t, s, "z")
	holds(t, s, 5, "abc", "", "xy")
}

// P3.3
func TestGetOfOthers(t *testing.T) {
	s := store.New(100)
	put(t, s, "abc", "")
	lacks(t, s, api.Digest{})
	lacks(t, s, sum("ab"))
	d := sum("abc")
	for k := range d {
		near := d
		near[k] ^= 1
		lacks(t, s, near)
	}
	holds(t, s, 100, "abc", "")
}

// P3.3: -1 tells of no blob, 0 of one without bytes.
func TestSizeOfNoBytes(t *testing.T) {
	s := store.New(0)
	if n := s.Size(sum("")); n != -1 {
		t.Error(n)
	}
	put(t, s, "")
	if n := s.Size(sum("")); n != 0 {
		t.Error(n)
	}
}

// P3.3, W2: the least digest first, each once, in whichever order blobs came.
func TestKeys(t *testing.T) {
	var blobs []string
	for k := range 300 {
		blobs = append(blobs, strconv.Itoa(k))
	}
	up, down := store.New(10000), store.New(10000)
	for k := range blobs {
		put(t, up, blobs[k], blobs[k/2])
		put(t, down, blobs[len(blobs)-1-k])
	}
	holds(t, up, 10000, blobs...)
	holds(t, down, 10000, blobs...)
	keys := up.Keys()
	for k := 1; k < len(keys); k++ {
		if !digest.Less(keys[k-1], keys[k]) {
			t.Fatalf("key %d is not behind the one ahead", k)
		}
	}
	for range 10 {
		if !slices.Equal(up.Keys(), keys) || !slices.Equal(down.Keys(), keys) {
			t.Fatal("another order")
		}
	}
}

// P3.4
func TestCopy(t *testing.T) {
	s := store.New(9)
	put(t, s, "abc", "")
	c := s.Copy()
	holds(t, c, 9, "abc", "")
	put(t, s, "s1")
	holds(t, c, 9, "abc", "")
	put(t, c, "c1", "c23")
	holds(t, s, 9, "abc", "", "s1")
	holds(t, c, 9, "abc", "", "c1", "c23")
	put(t, c, "s")
	refused(t, c, "s1")
	put(t, s, "s234")
	refused(t, s, "c")
	holds(t, s, 9, "abc", "", "s1", "s234")
	holds(t, c, 9, "abc", "", "c1", "c23", "s")
}

// P3.4: of an empty store, of one without room, of a copy.
func TestCopyOfCopies(t *testing.T) {
	s := store.New(3)
	c := s.Copy()
	put(t, c, "abc")
	e := c.Copy()
	refused(t, e, "x")
	holds(t, s, 3)
	holds(t, c, 3, "abc")
	holds(t, e, 3, "abc")
	z := store.New(-1).Copy()
	refused(t, z, "x")
	put(t, z, "")
	holds(t, z, 0, "")
	if n := store.New(api.MaxInt).Copy().Room(); n != api.MaxStore {
		t.Error(n)
	}
}

// P3.4, W6: what is handed in is neither kept nor changed, nor its spare room.
func TestPutKeepsNothing(t *testing.T) {
	s := store.New(100)
	all := []byte("abcdef")
	if d, err := s.Put(all[:3]); d != sum("abc") || err != api.OK {
		t.Fatalf("%x, %v", d, err)
	}
	if string(all) != "abcdef" {
		t.Errorf("changed: %q", all)
	}
	all[0] = 'z'
	holds(t, s, 100, "abc")
	s.Put(all[:3])
	all[1] = 'z'
	holds(t, s, 100, "abc", "zbc")
}

// P3.4, W6: what is answered is new memory, spare room too.
func TestAnswersAreNew(t *testing.T) {
	s := store.New(100)
	put(t, s, "abc", "xy", "")
	c := s.Copy()
	for range 2 {
		for _, of := range []*store.Store{s, c} {
			for _, b := range []string{"abc", "xy", ""} {
				got, _ := of.Get(sum(b))
				got = got[:cap(got)]
				for k := range got {
					got[k] = 'z'
				}
			}
			keys := of.Keys()
			keys = keys[:cap(keys)]
			clear(keys)
		}
		holds(t, s, 100, "abc", "xy", "")
		holds(t, c, 100, "abc", "xy", "")
	}
}

// P3.4: what is added to an answer, in its spare room, is not seen in another.
func TestAnswersAreApart(t *testing.T) {
	s := store.New(100)
	put(t, s, "abc")
	a, _ := s.Get(sum("abc"))
	b, _ := s.Get(sum("abc"))
	a, b = append(a, '1'), append(b, '2')
	if string(a) != "abc1" || string(b) != "abc2" {
		t.Errorf("%q, %q", a, b)
	}
	k, l := s.Keys(), s.Keys()
	k, l = append(k, sum("1")), append(l, sum("2"))
	if k[1] != sum("1") || l[1] != sum("2") {
		t.Errorf("%x, %x", k, l)
	}
}

// P3.5: each blob has the digest by which it is got, and stays, whatever is done then.
func TestWhatIsThereStays(t *testing.T) {
	s := store.New(60)
	var there []string
	for k := range 40 {
		b := string(bytes.Repeat([]byte{byte(k)}, k%7))
		_, err := s.Put([]byte(b))
		if err == api.OK && !slices.Contains(there, b) {
			there = append(there, b)
		}
		s.Get(sum("none"))
		s.Copy().Put([]byte("of the copy"))
		holds(t, s, 60, there...)
		for _, d := range s.Keys() {
			if got, ok := s.Get(d); !ok || digest.Of(got) != d {
				t.Errorf("%x: %q, %t", d, got, ok)
			}
		}
	}
}

// model is a store as its chapter tells of it, told in the simplest way.
type model struct {
	blobs []string
	room  int
}

// put is what Put of b answers.
func (m *model) put(b string) (api.Digest, api.Errno) {
	used := 0
	for _, other := range m.blobs {
		if other == b {
			return sum(b), api.OK
		}
		used += len(other)
	}
	if used+len(b) > m.room {
		return api.Digest{}, api.ErrFull
	}
	m.blobs = append(m.blobs, b)
	return sum(b), api.OK
}

// P3.1 to P3.5, W1: any blobs, in any order, in a store and in its copies.
func FuzzStore(f *testing.F) {
	f.Add(5, []byte("\x03abc\x03xyz\x03abc\xff\x02xy\x00\x01z"))
	f.Add(-1, []byte("\x00\x01a\xff\x00"))
	f.Add(20, []byte("\x04abcd\xff\x04abce\xff\x04abcf\x04abcd\x08aaaaaaaa\x01a"))
	f.Fuzz(func(t *testing.T, room int, does []byte) {
		m := model{room: min(max(room, 0), 1<<30)}
		s := store.New(room)
		for len(does) > 0 {
			n := int(does[0])
			does = does[1:]
			if n == 0xff {
				old := s
				s = s.Copy()
				holds(t, old, m.room, m.blobs...)
				old.Put([]byte("not of the copy"))
				continue
			}
			b := string(does[:min(n%16, len(does))])
			does = does[len(b):]
			want, no := m.put(b)
			if d, err := s.Put([]byte(b)); d != want || err != no {
				t.Fatalf("put %q: %x, %v", b, d, err)
			}
		}
		holds(t, s, m.room, m.blobs...)
	})
}
