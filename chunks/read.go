package chunks

import (
	"strings"

	"pleach/api"
	"pleach/disk"
	"pleach/frame"
	"pleach/sums"
)

// Of a frame: its head has three words, the first of them the payload's length,
// the second one the check sum of that.
const (
	wordSize = 4
	headSize = 3 * wordSize
)

// contents are those of a file: the payloads of its frames, and what stands
// behind them.
type contents struct {
	payloads []string
	tail     string
	size     int
}

// readFrames answers what a file has; nothing, if there is no such file.
func readFrames(d *disk.Disk, name string) (contents, api.Errno) {
	text, errno := d.Read(name)
	if errno == api.ErrNone {
		return contents{}, api.OK
	}
	if errno != api.OK {
		return contents{}, errno
	}
	payloads, taken := frame.Scan(text)
	return contents{payloads, text[taken:], len(text)}, api.OK
}

// known tells whether a store may have left such contents: frames of chunks and
// roots, and behind them at most one that was cut off.
func (c contents) known() bool {
	for _, payload := range c.payloads {
		if !strings.HasPrefix(payload, chunkTag) && !strings.HasPrefix(payload, rootTag) {
			return false
		}
	}
	return isCutOff(c.tail)
}

// sealed answers how many payloads stand up to the last root, with it.
func (c contents) sealed() int {
	n := len(c.payloads)
	for n > 0 && !strings.HasPrefix(c.payloads[n-1], rootTag) {
		n--
	}
	return n
}

// storeOf answers the store whose log has these contents, which are known.
func storeOf(d *disk.Disk, c contents) *Store {
	sealed := c.sealed()
	s := &Store{log: log{disk: d, size: c.size}, kept: make(pile)}
	s.log.torn = sealed < len(c.payloads) || c.tail != ""
	for _, payload := range c.payloads[:sealed] {
		if text, isRoot := strings.CutPrefix(payload, rootTag); isRoot {
			s.root = text
			continue
		}
		text := strings.TrimPrefix(payload, chunkTag)
		s.kept[sums.Print(text)] = chunk{text}
		s.log.live += headSize + len(payload)
	}
	return s
}

// isCutOff tells whether a text that doesn't begin with a whole frame may be the
// beginning of one. (The empty text may.)
func isCutOff(tail string) bool {
	// Of a length that is cut off itself the lowest one that begins so is taken.
	length := (tail + "\x00\x00\x00\x00")[:wordSize]
	n := number(length)
	if n > api.MaxChunk+1 {
		return false
	}
	if len(tail) <= wordSize {
		return true
	}
	sum := tail[wordSize:min(len(tail), 2*wordSize)]
	return strings.HasPrefix(word(sums.Check(length)), sum) && len(tail) < headSize+int(n)
}

// word answers a number in four bytes, the highest first.
func word(n uint32) string {
	return string([]byte{byte(n >> 24), byte(n >> 16), byte(n >> 8), byte(n)})
}

// number answers the number in the first four bytes of s, which has as many.
func number(s string) uint32 {
	return uint32(s[0])<<24 | uint32(s[1])<<16 | uint32(s[2])<<8 | uint32(s[3])
}
