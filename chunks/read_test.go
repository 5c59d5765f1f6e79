package chunks

import (
	"strings"
	"testing"

	"pleach/api"
	"pleach/disk"
	"pleach/frame"
)

// diskWith answers a disk with one file.
func diskWith(t *testing.T, name, text string) *disk.Disk {
	t.Helper()
	d := newDisk(t, 1<<23)
	if d.Append(name, text) != api.OK || d.Sync(name) != api.OK {
		t.Fatal("Append or Sync")
	}
	return d
}

func expectLost(t *testing.T, d *disk.Disk, what string) {
	t.Helper()
	names, used := d.Names(), d.Used()
	if s, errno := Open(d); s != nil || errno != api.ErrLost {
		t.Errorf("Open, with %.60s: %v, %d", what, s, errno)
	}
	if len(d.Names()) != len(names) || d.Used() != used {
		t.Errorf("Open, with %.60s, changed the disk", what)
	}
}

func wrap(t *testing.T, payload string) string {
	t.Helper()
	f, ok := frame.Wrap(payload)
	if !ok {
		t.Fatal("Wrap")
	}
	return f
}

// P6.1: files that are none of a store's, with bytes and without.
func TestOpenOtherFiles(t *testing.T) {
	for _, name := range []string{"a", "x", "chunks", "chunks.lo", "chunks.log.", "z.z", "-"} {
		for _, text := range []string{"", "junk", framed(rootTag, "r")} {
			expectLost(t, diskWith(t, name, text), name)
			d := newDisk(t, 10000)
			commit(t, open(t, d), "r", "one")
			d.Append(name, text)
			expectLost(t, d, name)
		}
	}
}

// P6.1: bytes that no store left, in files that are named as a store's are.
func TestOpenOtherBytes(t *testing.T) {
	whole := framed(chunkTag, "one") + framed(rootTag, "r")
	long := wrap(t, chunkTag+strings.Repeat("x", api.MaxChunk))
	texts := []string{
		"junk", "j", "\x01", "\x00\x11", "\x00\x10\x00\x02", "\x00\x10\x01",
		"\x00\x00\x00\x05j", "\x00\x00\x00\x05junk junk",
		wrap(t, ""), wrap(t, "x"), wrap(t, "C"), wrap(t, "R"), wrap(t, "xc"),
		wrap(t, "") + framed(rootTag, "r"),
		wrap(t, "xr") + framed(rootTag, "r"),
		long[:1] + "\x20" + long[2:],
	}
	for _, name := range []string{logName, spareName} {
		for _, text := range texts {
			expectLost(t, diskWith(t, name, text), text)
			expectLost(t, diskWith(t, name, whole+text), "frames and "+text)
		}
	}
}

// P6.1: a store of several frames one byte of which is another one: it is
// found, wherever that byte stands.
func TestOpenTurnedBytes(t *testing.T) {
	d := newDisk(t, 10000)
	s := open(t, d)
	commit(t, s, "r1", "one", "two", "")
	commit(t, s, "", "three")
	commit(t, s, "r3")
	text, _ := d.Read(logName)
	for i := range len(text) {
		for _, turn := range []byte{1, 2, 0x10, 0x80, 0xff} {
			other := text[:i] + string([]byte{text[i] ^ turn}) + text[i+1:]
			expectLost(t, diskWith(t, logName, other), "a turned byte")
			expectLost(t, diskWith(t, spareName, other), "a turned byte")
		}
	}
}

// P6.2: a log that ends anywhere: what is kept is what its last root seals.
func TestOpenCutOff(t *testing.T) {
	d := newDisk(t, 10000)
	s := open(t, d)
	ends, tells := []int{0}, []string{told("")}
	for _, c := range []string{"one", "two", "three"} {
		commit(t, s, "r"+c, c, c+c)
		ends, tells = append(ends, d.Used()), append(tells, tell(t, s))
	}
	text, _ := d.Read(logName)
	at := 0
	for n := range len(text) + 1 {
		if at+1 < len(ends) && n >= ends[at+1] {
			at++
		}
		d := diskWith(t, logName, text[:n])
		u := open(t, d)
		if got := tell(t, u); got != tells[at] {
			t.Fatalf("cut off at %d: %s, not %s", n, got, tells[at])
		}
		// What was cut off comes to no light by what is written behind it.
		kept := append([]string{"new"}, u.chunks()...)
		commit(t, u, "r", "new")
		expect(t, u, "r", kept...)
		expect(t, open(t, d), "r", kept...)
	}
}

// chunks answers all kept chunks.
func (s *Store) chunks() []string {
	var l []string
	for _, p := range s.Prints() {
		c, _ := s.Get(p)
		l = append(l, c)
	}
	return l
}

// P6.2: a spare file counts for nothing, wherever it ends.
func TestOpenSpare(t *testing.T) {
	text := framed(chunkTag, "other") + framed(rootTag, "other root")
	for n := range len(text) + 1 {
		d := diskWith(t, spareName, text[:n])
		expect(t, open(t, d), "")
		s := open(t, d)
		commit(t, s, "r", "one")
		expect(t, open(t, d), "r", "one")
		if errno := s.Collect(nil); errno != api.OK {
			t.Fatalf("Collect: %d", errno)
		}
		expect(t, open(t, d), "r")
	}
}
