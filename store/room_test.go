package store

import (
	"testing"

	"onionskin/api"
)

// P3.1, P3.2: what is clamped to 2^30 has room for so many bytes, and none more. (It is set as nearly full from within: to sum up 2^30 bytes takes long.)
func TestPutAboveTheGreatestRoom(t *testing.T) {
	for _, room := range []int{api.MaxStore, api.MaxStore + 1, api.MaxInt} {
		made := New(room)
		made.used = api.MaxStore - 1
		for _, s := range []*Store{made, made.Copy()} {
			if d, err := s.Put([]byte("ab")); d != (api.Digest{}) || err != api.ErrFull || s.Used() != api.MaxStore-1 {
				t.Errorf("%d: one byte more: %x, %v, %d used", room, d, err, s.Used())
			}
			if _, err := s.Put([]byte("a")); err != api.OK || s.Used() != api.MaxStore {
				t.Errorf("%d: one that just fits: %v, %d used", room, err, s.Used())
			}
			if d, err := s.Put([]byte("b")); d != (api.Digest{}) || err != api.ErrFull || s.Used() != api.MaxStore {
				t.Errorf("%d: one into no room: %x, %v, %d used", room, d, err, s.Used())
			}
			if _, err := s.Put(nil); err != api.OK {
				t.Errorf("%d: one of no bytes: %v", room, err)
			}
		}
	}
}
