// Package fs: a file system with room, syncs, renames, crashes: see ../shared/doc/01-fs.md.
package fs

import (
	"slices"
	"strings"

	"exchequer/api"
)

// file is a file: its bytes, of which the first synced ones are durable.
type file struct {
	bytes  []byte
	synced int
}

// FS is a file system. Its zero value is one without room; a nil one is as one that is down and empty.
type FS struct {
	files    map[string]*file
	room     int
	used     int
	steps    int
	armed    int // how many writes on the one that fails is; 0: none is
	down     bool
	crashing bool // a Crash is asking its keep
}

// New makes one that holds so many bytes.
func New(room int) *FS {
	return &FS{room: min(max(room, 0), api.MaxRoom)}
}

// Create makes a file.
func (f *FS) Create(name string) api.Errno {
	if f.Down() {
		return api.ErrDown
	}
	if !Valid(name) {
		return api.ErrName
	}
	if f.find(name) != nil {
		return api.ErrThere
	}
	if len(f.files) >= api.MaxFiles {
		return api.ErrFull
	}
	if !f.step() {
		return api.ErrDown
	}
	if f.files == nil {
		f.files = map[string]*file{}
	}
	f.files[strings.Clone(name)] = &file{}
	return api.OK
}

// Append writes behind a file's end.
func (f *FS) Append(name string, b []byte) api.Errno {
	if f.Down() {
		return api.ErrDown
	}
	to := f.find(name)
	if to == nil {
		return api.ErrNone
	}
	if len(b) > f.room-f.used {
		return api.ErrFull
	}
	if !f.step() {
		return api.ErrDown
	}
	to.bytes = append(to.bytes, b...)
	f.used += len(b)
	return api.OK
}

// Sync makes a file's bytes durable.
func (f *FS) Sync(name string) api.Errno {
	if f.Down() {
		return api.ErrDown
	}
	of := f.find(name)
	if of == nil {
		return api.ErrNone
	}
	if !f.step() {
		return api.ErrDown
	}
	of.synced = len(of.bytes)
	return api.OK
}

// Truncate cuts a file.
func (f *FS) Truncate(name string, n int) api.Errno {
	if f.Down() {
		return api.ErrDown
	}
	of := f.find(name)
	if of == nil {
		return api.ErrNone
	}
	if n < 0 || n > len(of.bytes) {
		return api.ErrRange
	}
	if !f.step() {
		return api.ErrDown
	}
	f.cut(of, n)
	return api.OK
}

// Rename gives a file another name.
func (f *FS) Rename(from, to string) api.Errno {
	if f.Down() {
		return api.ErrDown
	}
	moved := f.find(from)
	if moved == nil {
		return api.ErrNone
	}
	if !Valid(to) {
		return api.ErrName
	}
	if !f.step() {
		return api.ErrDown
	}
	if from == to {
		return api.OK
	}
	f.drop(to)
	delete(f.files, from)
	f.files[strings.Clone(to)] = moved
	return api.OK
}

// Remove takes a file away.
func (f *FS) Remove(name string) api.Errno {
	if f.Down() {
		return api.ErrDown
	}
	if f.find(name) == nil {
		return api.ErrNone
	}
	if !f.step() {
		return api.ErrDown
	}
	f.drop(name)
	return api.OK
}

// Read is a file's bytes.
func (f *FS) Read(name string) ([]byte, api.Errno) {
	of := f.find(name)
	if of == nil {
		return nil, api.ErrNone
	}
	return copied(of.bytes), api.OK
}

// Size is how many bytes a file has.
func (f *FS) Size(name string) (int, api.Errno) {
	of := f.find(name)
	if of == nil {
		return 0, api.ErrNone
	}
	return len(of.bytes), api.OK
}

// Names tells the names that begin so.
func (f *FS) Names(front string) []string {
	if f == nil {
		return nil
	}
	var names []string
	for name := range f.files {
		if strings.HasPrefix(name, front) {
			names = append(names, name)
		}
	}
	slices.Sort(names)
	return names
}

// Used is the bytes of all files.
func (f *FS) Used() int {
	if f == nil {
		return 0
	}
	return f.used
}

// Room is how many bytes it holds.
func (f *FS) Room() int {
	if f == nil {
		return 0
	}
	return f.room
}

// Steps tells how many writes were done.
func (f *FS) Steps() int {
	if f == nil {
		return 0
	}
	return f.steps
}

// Arm lets the n-th write from now on fail.
func (f *FS) Arm(n int) {
	if f != nil {
		f.armed = max(n, 0)
	}
}

// Down tells whether it is down.
func (f *FS) Down() bool {
	return f == nil || f.down
}

// Crash loses what wasn't synced, but what is kept.
func (f *FS) Crash(keep func(name string, unsynced int) int) {
	// A keep that crashes it again would never come to an end.
	if f == nil || f.crashing {
		return
	}
	// Down while keep is asked: a keep that writes must not change what the crash has found.
	f.crashing, f.down = true, true
	for _, name := range f.Names("") {
		f.tear(name, keep)
	}
	f.crashing, f.down, f.armed = false, false, 0
}

// Copy makes another one, the same.
func (f *FS) Copy() *FS {
	if f == nil {
		return nil
	}
	c := *f
	c.crashing = false
	c.files = make(map[string]*file, len(f.files))
	for name, of := range f.files {
		c.files[name] = &file{bytes: copied(of.bytes), synced: of.synced}
	}
	return &c
}

// Valid tells whether a name may be.
func Valid(name string) bool {
	if len(name) < 1 || len(name) > api.MaxName {
		return false
	}
	for i := range len(name) {
		if !validByte(name[i]) {
			return false
		}
	}
	return name[0] != '/' && name[len(name)-1] != '/'
}

func validByte(c byte) bool {
	return c >= 'a' && c <= 'z' || c >= '0' && c <= '9' || c == '-' || c == '.' || c == '/'
}

// find is the file of that name, or nil.
func (f *FS) find(name string) *file {
	if f == nil {
		return nil
	}
	return f.files[name]
}

// step counts a write that has no other error; it is false if that is the armed one.
func (f *FS) step() bool {
	if f.armed == 1 {
		f.armed, f.down = 0, true
		return false
	}
	if f.armed > 0 {
		f.armed--
	}
	f.steps++
	return true
}

// drop takes a file away, if it is there.
func (f *FS) drop(name string) {
	if of := f.find(name); of != nil {
		f.used -= len(of.bytes)
		delete(f.files, name)
	}
}

// cut leaves a file its first n bytes.
func (f *FS) cut(of *file, n int) {
	f.used -= len(of.bytes) - n
	of.bytes = of.bytes[:n]
	of.synced = min(of.synced, n)
}

// tear leaves a file what a crash leaves of it.
func (f *FS) tear(name string, keep func(name string, unsynced int) int) {
	of := f.find(name)
	unsynced := len(of.bytes) - of.synced
	if unsynced > 0 {
		kept := min(max(asked(keep, name, unsynced), 0), unsynced)
		f.cut(of, of.synced+kept)
		of.synced = len(of.bytes)
	}
}

// asked is what keep says: 0 if there is none, or if it panics, as a crash must come to its end.
func asked(keep func(name string, unsynced int) int, name string, unsynced int) (kept int) {
	if keep == nil {
		return 0
	}
	defer func() {
		if recover() != nil {
			kept = 0
		}
	}()
	return keep(name, unsynced)
}

// copied is the same bytes in memory of their own.
func copied(b []byte) []byte {
	c := make([]byte, len(b))
	copy(c, b)
	return c
}
