package chunks

import (
	"strings"

	"pleach/api"
	"pleach/disk"
	"pleach/frame"
)

// A store stands on its disk as one file, the log: frames, each of a tag and
// either a chunk or a root. A root's frame seals what stands ahead of it; what
// stands behind the last one is of a Commit that was broken off. So a Commit
// adds its chunks, and its root behind them; and where a log is to be written
// anew, that is done in a spare file, which gets the log's name when it is
// sure, so that there is always one whole log.
const (
	logName   = "chunks.log"
	spareName = "chunks.new"
	chunkTag  = "c"
	rootTag   = "r"
)

// slack: a log has at most twice as many bytes as what it keeps needs, and this
// many more. Its spare file has at most as many as what it keeps needs: both
// together stay within the room of P6.3, however often the same is kept anew.
const slack = 1000

type log struct {
	disk *disk.Disk
	size int  // its bytes
	live int  // how many of them kept chunks take
	torn bool // whether something stands behind the last root
}

// add keeps fresh, and the root, beside the chunks that the log keeps already.
func (l *log) add(kept, fresh pile, root string) api.Errno {
	chunks := framesOf(fresh)
	batch := chunks + framed(rootTag, root)
	var errno api.Errno
	if l.torn || l.size+len(batch) > 2*(l.live+len(batch))+slack {
		errno = l.replace(framesOf(kept) + batch)
	} else {
		errno = l.extend(batch)
	}
	if errno == api.OK {
		l.live += len(chunks)
	}
	return errno
}

// renew keeps just these chunks, and the root.
func (l *log) renew(kept pile, root string) api.Errno {
	chunks := framesOf(kept)
	errno := l.replace(chunks + framed(rootTag, root))
	if errno == api.OK {
		l.live = len(chunks)
	}
	return errno
}

// extend puts frames behind those of the log. All of them are one step, so that
// a disk without room refuses them together.
func (l *log) extend(frames string) api.Errno {
	if errno := l.disk.Append(logName, frames); errno != api.OK {
		return errno
	}
	if errno := l.disk.Sync(logName); errno != api.OK {
		return errno
	}
	l.size += len(frames)
	return api.OK
}

// replace writes a log of these frames alone.
func (l *log) replace(frames string) api.Errno {
	// A call that was broken off may have left a spare file.
	if errno := l.disk.Delete(spareName); errno != api.OK && errno != api.ErrNone {
		return errno
	}
	if errno := l.disk.Append(spareName, frames); errno != api.OK {
		return errno
	}
	if errno := l.disk.Sync(spareName); errno != api.OK {
		return errno
	}
	if errno := l.disk.Rename(spareName, logName); errno != api.OK {
		return errno
	}
	l.size, l.torn = len(frames), false
	return api.OK
}

// framesOf answers the frames of all chunks of a pile, by rising fingerprints.
func framesOf(p pile) string {
	var frames strings.Builder
	for _, print := range p.prints() {
		frames.WriteString(framed(chunkTag, p[print].text))
	}
	return frames.String()
}

// framed answers the frame of a tag and a text, which fit one: no chunk and no
// root has more bytes than MaxChunk.
func framed(tag, text string) string {
	whole, _ := frame.Wrap(tag + text)
	return whole
}
