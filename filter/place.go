package filter

// draft is a filter that is being made.
type draft struct{ bytes []byte }

func (d *draft) set(place int) { d.bytes[place/bitsOfByte] |= mask(place) }

// probe is a filter that is asked, and whether one of the bits asked for so far is not set. It is apart from draft, since
// a filter to be asked need not be copied.
type probe struct {
	filter string
	lacks  bool
}

func (p *probe) test(place int) {
	if p.filter[place/bitsOfByte]&mask(place) == 0 {
		p.lacks = true
	}
}

// mask is the bit of a place in its byte.
func mask(place int) byte { return 1 << (place % bitsOfByte) }

// eachPlace hands on the places of a key in a filter of so many bytes, one after the other.
func eachPlace(key string, bytes int, do func(place int)) {
	for _, place := range Places(key, bitsOfByte*bytes) {
		do(place)
	}
}
