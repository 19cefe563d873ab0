package rec

import (
	"bytes"
	"encoding/binary"
	"io"
	"slices"
	"strings"

	"flitting/api"
)

// four is n in four bytes, of which no more are told.
func four(b []byte, n int) []byte {
	return binary.BigEndian.AppendUint32(b, uint32(n))
}

func keyBytes(b []byte, key string) []byte {
	return append(append(b, byte(len(key))), key...)
}

func drivesBytes(b []byte, list []int) []byte {
	b = append(b, byte(len(list)))
	for _, n := range list {
		b = four(b, n)
	}
	return b
}

func stripesBytes(b []byte, list []api.Stripe) []byte {
	b = append(b, byte(len(list)))
	for _, s := range list {
		b = drivesBytes(four(four(b, s.ID), s.Epoch), s.Locs)
	}
	return b
}

// bytesOf is r as bytes, told by the library; also of what does not fit, cut to the bytes that there are for it.
func bytesOf(r api.Rec) []byte {
	b := four(four([]byte{byte(r.Kind)}, r.ID), r.Size)
	b = stripesBytes(keyBytes(b, r.Key), r.Stripes)
	b = binary.BigEndian.AppendUint16(b, uint16(len(r.Objects)))
	for _, o := range r.Objects {
		b = stripesBytes(four(four(keyBytes(b, o.Key), o.ID), o.Size), o.Stripes)
	}
	return drivesBytes(b, r.Drives)
}

// model reads a record by the library; what is none it tells by a panic.
type model struct{ *bytes.Reader }

func hold(ok bool) {
	if !ok {
		panic("no record")
	}
}

func (m model) bytes(count uint32) []byte {
	b := make([]byte, count)
	_, err := io.ReadFull(m, b)
	hold(err == nil)
	return b
}

func (m model) one() uint32 {
	return uint32(m.bytes(1)[0])
}

func (m model) two() uint32 {
	return uint32(binary.BigEndian.Uint16(m.bytes(2)))
}

func (m model) number() int {
	n := binary.BigEndian.Uint32(m.bytes(4))
	hold(n <= 1<<30)
	return int(n)
}

func (m model) key() string {
	count := m.one()
	hold(count <= 16)
	return string(m.bytes(count))
}

func (m model) drives() (list []int) {
	for left := m.one(); left > 0; left-- {
		list = append(list, m.number())
	}
	return list
}

func (m model) stripes() (list []api.Stripe) {
	for left := m.one(); left > 0; left-- {
		var s api.Stripe
		s.ID = m.number()
		s.Epoch = m.number()
		s.Locs = m.drives()
		list = append(list, s)
	}
	return list
}

func (m model) objects() (list []api.Object) {
	for left := m.two(); left > 0; left-- {
		var o api.Object
		o.Key = m.key()
		o.ID = m.number()
		o.Size = m.number()
		o.Stripes = m.stripes()
		list = append(list, o)
	}
	return list
}

// recOf is the record whose bytes b are; false, if there is none.
func recOf(b []byte) (r api.Rec, ok bool) {
	defer func() {
		if recover() != nil {
			r, ok = api.Rec{}, false
		}
	}()
	m := model{bytes.NewReader(b)}
	hold(len(b) <= 8192)
	r.Kind = int(m.one())
	hold(1 <= r.Kind && r.Kind <= 5)
	r.ID = m.number()
	r.Size = m.number()
	r.Key = m.key()
	r.Stripes = m.stripes()
	r.Objects = m.objects()
	r.Drives = m.drives()
	hold(m.Len() == 0)
	return r, true
}

// clone is r in memory of its own.
func clone(r api.Rec) api.Rec {
	stripes := func(list []api.Stripe) []api.Stripe {
		list = slices.Clone(list)
		for n := range list {
			list[n].Locs = slices.Clone(list[n].Locs)
		}
		return list
	}
	r.Stripes = stripes(r.Stripes)
	r.Objects = slices.Clone(r.Objects)
	for n := range r.Objects {
		r.Objects[n].Stripes = stripes(r.Objects[n].Stripes)
	}
	r.Drives = slices.Clone(r.Drives)
	return r
}

// stripesIn are all lists of stripes of r.
func stripesIn(r *api.Rec) []*[]api.Stripe {
	list := []*[]api.Stripe{&r.Stripes}
	for n := range r.Objects {
		list = append(list, &r.Objects[n].Stripes)
	}
	return list
}

// drivesIn are all lists of drives of r.
func drivesIn(r *api.Rec) []*[]int {
	list := []*[]int{&r.Drives}
	for _, stripes := range stripesIn(r) {
		for n := range *stripes {
			list = append(list, &(*stripes)[n].Locs)
		}
	}
	return list
}

// keysIn are all keys of r.
func keysIn(r *api.Rec) []*string {
	list := []*string{&r.Key}
	for n := range r.Objects {
		list = append(list, &r.Objects[n].Key)
	}
	return list
}

// numbersIn are all numbers of r, but its Kind.
func numbersIn(r *api.Rec) []*int {
	list := []*int{&r.ID, &r.Size}
	for n := range r.Objects {
		list = append(list, &r.Objects[n].ID, &r.Objects[n].Size)
	}
	for _, stripes := range stripesIn(r) {
		for n := range *stripes {
			list = append(list, &(*stripes)[n].ID, &(*stripes)[n].Epoch)
		}
	}
	for _, drives := range drivesIn(r) {
		for n := range *drives {
			list = append(list, &(*drives)[n])
		}
	}
	return list
}

// seeded is a row of numbers that follow a rule.
type seeded uint64

// below goes on, and is a number below n.
func (s *seeded) below(n int) int {
	*s = *s*6364136223846793005 + 1442695040888963407
	return int(uint64(*s) >> 33 % uint64(n))
}

// number is one that fits: an end, a single bit, or any.
func (s *seeded) number() int {
	switch s.below(4) {
	case 0:
		return 0
	case 1:
		return 1 << 30
	case 2:
		return 1 << s.below(31)
	default:
		return s.below(1 << 30)
	}
}

// key is one that fits, of any bytes.
func (s *seeded) key() string {
	var key strings.Builder
	for range s.below(17) {
		key.WriteByte(byte(s.below(256)))
	}
	return key.String()
}

func (s *seeded) drives(most int) (list []int) {
	for range s.below(most + 1) {
		list = append(list, s.number())
	}
	return list
}

func (s *seeded) stripes(most int) (list []api.Stripe) {
	for range s.below(most + 1) {
		list = append(list, api.Stripe{ID: s.number(), Epoch: s.number(), Locs: s.drives(most)})
	}
	return list
}

// rec is one that fits; of lists, none has more than so many.
func (s *seeded) rec(most int) api.Rec {
	r := api.Rec{Kind: 1 + s.below(5), ID: s.number(), Size: s.number(), Key: s.key(), Stripes: s.stripes(most), Drives: s.drives(most)}
	for range s.below(most + 1) {
		r.Objects = append(r.Objects, api.Object{Key: s.key(), ID: s.number(), Size: s.number(), Stripes: s.stripes(most)})
	}
	return r
}
