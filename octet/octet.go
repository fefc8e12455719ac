// Package octet tells numbers as bytes, the highest byte first (layer 1: doc/01-octet.md).
package octet

// most is how many bytes a number has at most.
const most = 8

// fits tells whether a number may have so many bytes.
func fits(many int) bool { return many >= 1 && many <= most }

// Put tells n's lowest bytes, so many as are asked for; none, if there is no such number.
func Put(n uint64, many int) []byte {
	if !fits(many) {
		return nil
	}
	b := make([]byte, many)
	for i := range many {
		b[many-1-i] = byte(n >> (8 * i))
	}
	return b
}

// Reader reads numbers from bytes, one behind the other.
type Reader struct {
	rest  []byte
	short bool
}

// New is a reader at the beginning of b.
func New(b []byte) *Reader {
	// A copy: whoever handed b in may go on with it.
	return &Reader{rest: append([]byte(nil), b...)}
}

// Take reads the number that the next so many bytes are; 0, if there are too few of them, or it was short ahead.
func (r *Reader) Take(many int) uint64 {
	if !fits(many) || r.short {
		return 0
	}
	if len(r.rest) < many {
		r.short, r.rest = true, nil
		return 0
	}
	var n uint64
	for i := range many {
		n = n<<8 | uint64(r.rest[i])
	}
	r.rest = r.rest[many:]
	return n
}

// Left is how many bytes are left.
func (r *Reader) Left() int { return len(r.rest) }

// Short tells whether there were too few bytes once.
func (r *Reader) Short() bool { return r.short }
