// Package digest: the sum by which a release is known.
package digest

import (
	"strconv"
	"strings"

	"trellis/api"
	"trellis/listing"
)

const (
	start  = hash(0xcbf29ce484222325)
	factor = hash(0x100000001b3)
	digits = 16
)

// hash of the bytes so far; it wraps round at 2^64.
type hash uint64

// Of is the sum of a release.
func Of(r api.Release) string {
	h := start.with(r.Path).with(r.Version).with(r.Manifest)
	for _, file := range listing.InOrder(r.Files) {
		h = h.with(file.Name).with(file.Data)
	}
	return h.text()
}

// IsSum tells whether a text has the form of a sum.
func IsSum(text string) bool {
	for i := range len(text) {
		if !isDigit(text[i]) {
			return false
		}
	}
	return len(text) == digits
}

func isDigit(b byte) bool { return '0' <= b && b <= '9' || 'a' <= b && b <= 'f' }

// with goes on with a text and the byte 0 that ends it.
func (h hash) with(text string) hash {
	for i := range len(text) {
		h = h.withByte(text[i])
	}
	return h.withByte(0)
}

func (h hash) withByte(b byte) hash { return (h ^ hash(b)) * factor }

func (h hash) text() string {
	short := strconv.FormatUint(uint64(h), 16)
	return strings.Repeat("0", digits-len(short)) + short
}
