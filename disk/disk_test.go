package disk_test

import (
	"math"
	"slices"
	"strconv"
	"strings"
	"testing"

	"rootstock/api"
	"rootstock/disk"
)

// of tells a sector that is full of one byte.
func of(c byte) string { return strings.Repeat(string([]byte{c}), api.Sector) }

// torn tells a sector whose first k bytes are of one text, and the others of another.
func torn(k int, a, b string) string { return a[:k] + b[k:] }

// zeros is a sector of zero bytes.
var zeros = of(0)

// checkInt holds one number against another.
func checkInt(t *testing.T, what string, got, want int) {
	t.Helper()
	if got != want {
		t.Errorf("%s: %d, not %d", what, got, want)
	}
}

// checkIs holds a yes or no against the one that is wanted.
func checkIs(t *testing.T, what string, got, want bool) {
	t.Helper()
	if got != want {
		t.Errorf("%s: %t, not %t", what, got, want)
	}
}

// checkErr holds one error against another.
func checkErr(t *testing.T, what string, got, want api.Errno) {
	t.Helper()
	if got != want {
		t.Errorf("%s: error %d, not %d", what, got, want)
	}
}

// checkSize holds what Size tells against what is wanted.
func checkSize(t *testing.T, what string, d *disk.Disk, name string, want int, bad api.Errno) {
	t.Helper()
	if n, e := d.Size(name); n != want || e != bad {
		t.Errorf("%s: Size of %q: %d, %d, not %d, %d", what, name, n, e, want, bad)
	}
}

// checkRead holds what Read tells against what is wanted.
func checkRead(t *testing.T, what string, d *disk.Disk, name string, at int, want string, bad api.Errno) {
	t.Helper()
	if s, e := d.Read(name, at); s != want || e != bad {
		t.Errorf("%s: Read of %q at %d: %q, %d, not %q, %d", what, name, at, s, e, want, bad)
	}
}

// checkFile holds the sectors of a file against those that are wanted.
func checkFile(t *testing.T, what string, d *disk.Disk, name string, want ...string) {
	t.Helper()
	checkSize(t, what, d, name, len(want), api.OK)
	for at, s := range want {
		checkRead(t, what, d, name, at, s, api.OK)
	}
}

// checkGone holds a disk to have no file of a name.
func checkGone(t *testing.T, what string, d *disk.Disk, name string) {
	t.Helper()
	checkSize(t, what, d, name, 0, api.ErrNone)
	checkRead(t, what, d, name, 0, "", api.ErrNone)
}

// checkList holds what List tells against what is wanted.
func checkList(t *testing.T, what string, d *disk.Disk, prefix string, want ...string) {
	t.Helper()
	if got := d.List(prefix); !slices.Equal(got, want) {
		t.Errorf("%s: List of %q: %q, not %q", what, prefix, got, want)
	}
}

// write writes what must be told OK.
func write(t *testing.T, d *disk.Disk, name string, at int, data string) {
	t.Helper()
	checkErr(t, "Write of "+name+" at "+strconv.Itoa(at), d.Write(name, at, data), api.OK)
}

// fill writes sectors behind each other, from the first on.
func fill(t *testing.T, d *disk.Disk, name string, data ...string) {
	t.Helper()
	for at, s := range data {
		write(t, d, name, at, s)
	}
}

// safe makes a file of sectors that are safe.
func safe(t *testing.T, d *disk.Disk, name string, data ...string) {
	t.Helper()
	fill(t, d, name, data...)
	checkErr(t, "Sync of "+name, d.Sync(name), api.OK)
}

// crash lets the power go, and come.
func crash(t *testing.T, d *disk.Disk, lost int, keep ...int) {
	t.Helper()
	checkInt(t, "Crash", d.Crash(keep...), lost)
	d.Restore()
}

// calls are the calls that answer an error, of one name.
func calls(d *disk.Disk, name string) map[string]api.Errno {
	_, read := d.Read(name, 0)
	_, size := d.Size(name)
	return map[string]api.Errno{
		"Write":       d.Write(name, 0, zeros),
		"Read":        read,
		"Size":        size,
		"Sync":        d.Sync(name),
		"Cut":         d.Cut(name, 0),
		"Rename":      d.Rename(name, "other"),
		"Rename back": d.Rename("other", name),
		"Remove":      d.Remove(name),
	}
}

// checkCalls holds what all calls tell of one name against the error that is wanted.
func checkCalls(t *testing.T, what string, d *disk.Disk, name string, want api.Errno) {
	t.Helper()
	if n, e := d.Size(name); e != api.OK && n != 0 {
		t.Errorf("%s: Size %d beside an error", what, n)
	}
	if s, e := d.Read(name, 0); e != api.OK && s != "" {
		t.Errorf("%s: Read %q beside an error", what, s)
	}
	for call, e := range calls(d, name) {
		checkErr(t, what+": "+call, e, want)
	}
}

func TestP401New(t *testing.T) {
	for _, room := range []int{0, 1, 5, -1, math.MinInt, math.MaxInt} {
		d := disk.New(room)
		checkIs(t, "On", d.On(), true)
		checkList(t, "a new one", d, "")
		checkInt(t, "Used", d.Used(), 0)
		checkInt(t, "Dirty", d.Dirty(), 0)
		checkInt(t, "Crash", d.Crash(256), 0)
	}
}

func TestP401Names(t *testing.T) {
	long := strings.Repeat("n", 40)
	for _, name := range []string{"a", "\x00", "/", "a b", "\xff\xfe", long} {
		d := disk.New(0)
		write(t, d, name, 0, of('x'))
		checkCalls(t, "the name "+strconv.Quote(name), d, name, api.OK)
	}
	for _, name := range []string{"", long + "n", strings.Repeat("n", 1000)} {
		d := disk.New(0)
		write(t, d, "other", 0, of('x'))
		checkCalls(t, "the name "+strconv.Quote(name), d, name, api.ErrArg)
		checkErr(t, "Rename of a file that is not there", d.Rename("none", name), api.ErrArg)
		checkErr(t, "Write of too few bytes", d.Write(name, -1, ""), api.ErrArg)
		checkList(t, "behind names that are none", d, "", "other")
	}
}

func TestP401NoPower(t *testing.T) {
	d := disk.New(0)
	safe(t, d, "a", of('x'))
	safe(t, d, "other", of('y'))
	d.Crash()
	for _, name := range []string{"a", "none", "", strings.Repeat("n", 41)} {
		checkCalls(t, "without power", d, name, api.ErrOff)
	}
	checkErr(t, "Write of too few bytes", d.Write("a", 9, ""), api.ErrOff)
	checkErr(t, "Cut beyond its size", d.Cut("a", 9), api.ErrOff)
	d.Restore()
	checkList(t, "with power again", d, "", "a", "other")
	checkFile(t, "with power again", d, "a", of('x'))
	checkFile(t, "with power again", d, "other", of('y'))
}

func TestP401WriteAndRead(t *testing.T) {
	d := disk.New(0)
	fill(t, d, "a", of('x'), of('y'), of('z'))
	fill(t, d, "b", of('p'))
	checkFile(t, "three", d, "a", of('x'), of('y'), of('z'))
	checkFile(t, "one", d, "b", of('p'))
	write(t, d, "a", 1, of('Y'))
	write(t, d, "a", 0, torn(5, of('1'), of('2')))
	checkFile(t, "written over", d, "a", torn(5, of('1'), of('2')), of('Y'), of('z'))
	checkFile(t, "the other one", d, "b", of('p'))
	write(t, d, "a", 3, zeros)
	checkFile(t, "longer", d, "a", torn(5, of('1'), of('2')), of('Y'), of('z'), zeros)
}

func TestP401WriteErrors(t *testing.T) {
	d := disk.New(1)
	write(t, d, "a", 0, of('x'))
	tell := func(name string, at int, data string, want api.Errno) {
		t.Helper()
		checkErr(t, "Write of "+name+" at "+strconv.Itoa(at)+" of "+strconv.Itoa(len(data)), d.Write(name, at, data), want)
	}
	for _, n := range []int{0, 1, 255, 257, 512} {
		for _, at := range []int{0, 1, -1, 2} {
			tell("a", at, strings.Repeat("d", n), api.ErrArg)
			tell("b", at, strings.Repeat("d", n), api.ErrArg)
		}
	}
	for _, at := range []int{-1, 2, api.MaxPages, math.MaxInt, math.MinInt} {
		tell("a", at, of('y'), api.ErrRange)
		tell("b", at, of('y'), api.ErrRange)
	}
	tell("b", 1, of('y'), api.ErrRange)
	tell("a", 1, of('y'), api.ErrFull)
	tell("b", 0, of('y'), api.ErrFull)
	checkFile(t, "behind errors", d, "a", of('x'))
	checkList(t, "behind errors", d, "", "a")
	checkInt(t, "Used", d.Used(), 1)
	checkInt(t, "Dirty", d.Dirty(), 1)
}

func TestP401GreatestPlace(t *testing.T) {
	d := disk.New(0)
	for at := range api.MaxPages + 1 {
		write(t, d, "a", at, of(byte(at)))
	}
	checkErr(t, "beyond MaxPages", d.Write("a", api.MaxPages+1, of('x')), api.ErrRange)
	checkSize(t, "the longest", d, "a", api.MaxPages+1, api.OK)
	checkRead(t, "its end", d, "a", api.MaxPages, of(api.MaxPages&255), api.OK)
	write(t, d, "a", api.MaxPages, of('e'))
	checkRead(t, "its end", d, "a", api.MaxPages, of('e'), api.OK)
	write(t, d, "b", 0, of('b'))
	checkInt(t, "Used", d.Used(), api.MaxPages+2)
}

func TestP401ReadErrors(t *testing.T) {
	d := disk.New(0)
	fill(t, d, "a", of('x'), of('y'))
	for _, at := range []int{-1, 2, 3, math.MaxInt, math.MinInt} {
		checkRead(t, "beyond", d, "a", at, "", api.ErrRange)
		checkRead(t, "not there", d, "b", at, "", api.ErrNone)
	}
	checkGone(t, "not there", d, "b")
	checkErr(t, "Cut to none", d.Cut("a", 0), api.OK)
	checkRead(t, "cut to none", d, "a", 0, "", api.ErrRange)
	checkFile(t, "cut to none", d, "a")
}

func TestP401RoomOfSectors(t *testing.T) {
	d := disk.New(3)
	fill(t, d, "a", of('x'), of('y'))
	write(t, d, "b", 0, of('z'))
	checkErr(t, "one more", d.Write("a", 2, of('w')), api.ErrFull)
	checkErr(t, "one more file", d.Write("c", 0, of('w')), api.ErrFull)
	checkGone(t, "no room", d, "c")
	write(t, d, "a", 1, of('Y'))
	checkErr(t, "Cut", d.Cut("a", 1), api.OK)
	write(t, d, "c", 0, of('w'))
	checkErr(t, "one more again", d.Write("b", 1, of('w')), api.ErrFull)
	checkErr(t, "Remove", d.Remove("a"), api.OK)
	write(t, d, "b", 1, of('w'))
	checkErr(t, "full again", d.Write("b", 2, of('w')), api.ErrFull)
	crash(t, d, 2, 256)
	write(t, d, "b", 1, of('w'))
	write(t, d, "b", 2, of('w'))
	checkErr(t, "full behind a crash", d.Write("b", 3, of('w')), api.ErrFull)
}

func TestP401NoBound(t *testing.T) {
	for _, room := range []int{0, -1, math.MinInt} {
		d := disk.New(room)
		for at := range 500 {
			write(t, d, "a", at, zeros)
			write(t, d, "b", at, zeros)
		}
		checkInt(t, "Used", d.Used(), 1000)
	}
}

func TestP401MostFiles(t *testing.T) {
	d := disk.New(0)
	for i := range api.MaxFiles {
		write(t, d, "f"+strconv.Itoa(i), 0, of(byte(i)))
	}
	checkErr(t, "one file more", d.Write("more", 0, of('x')), api.ErrFull)
	checkErr(t, "one that is too short", d.Write("more", 0, "x"), api.ErrArg)
	checkErr(t, "one that is too far", d.Write("more", 1, of('x')), api.ErrRange)
	checkGone(t, "no room", d, "more")
	write(t, d, "f0", 1, of('y'))
	checkErr(t, "Cut", d.Cut("f1", 0), api.OK)
	checkErr(t, "a file without a sector is one", d.Write("more", 0, of('x')), api.ErrFull)
	checkErr(t, "Rename", d.Rename("f1", "g1"), api.OK)
	checkErr(t, "renamed", d.Write("more", 0, of('x')), api.ErrFull)
	checkErr(t, "Rename to another one", d.Rename("f2", "f3"), api.OK)
	write(t, d, "more", 0, of('x'))
	checkErr(t, "again", d.Write("f2", 0, of('x')), api.ErrFull)
	checkErr(t, "Remove", d.Remove("f3"), api.OK)
	write(t, d, "f2", 0, of('x'))
	checkInt(t, "files", len(d.List("")), api.MaxFiles)
}

// What is handed in is not kept, and what is kept is not handed out.
func TestP401BytesAreItsOwn(t *testing.T) {
	d := disk.New(0)
	keep := []int{256, 0}
	d.Arm(2, keep...)
	keep[0], keep[1] = 0, 256
	fill(t, d, "a", of('x'), of('y'))
	checkErr(t, "the third", d.Sync("a"), api.ErrOff)
	d.Restore()
	checkFile(t, "as it was armed", d, "a", of('x'))
	names := d.List("")
	names[0] = "b"
	checkList(t, "once more", d, "", "a")
}

func TestP402Sync(t *testing.T) {
	d := disk.New(0)
	checkErr(t, "Sync of none", d.Sync("a"), api.ErrNone)
	fill(t, d, "a", of('x'), of('y'))
	fill(t, d, "b", of('p'))
	write(t, d, "a", 0, of('X'))
	checkInt(t, "Dirty", d.Dirty(), 4)
	checkErr(t, "Sync", d.Sync("a"), api.OK)
	checkInt(t, "Dirty behind Sync", d.Dirty(), 1)
	checkErr(t, "Sync once more", d.Sync("a"), api.OK)
	checkFile(t, "synced", d, "a", of('X'), of('y'))
	crash(t, d, 1)
	checkFile(t, "behind a crash", d, "a", of('X'), of('y'))
	checkGone(t, "not synced", d, "b")
}

func TestP402SyncOfLength(t *testing.T) {
	d := disk.New(0)
	safe(t, d, "a", of('x'), of('y'), of('z'))
	fill(t, d, "a", of('X'))
	write(t, d, "a", 3, of('w'))
	crash(t, d, 2)
	checkFile(t, "as long as it was safe", d, "a", of('x'), of('y'), of('z'))
	safe(t, d, "none", of('x'))
	checkErr(t, "Cut", d.Cut("none", 0), api.OK)
	checkErr(t, "Sync", d.Sync("none"), api.OK)
	write(t, d, "none", 0, of('y'))
	crash(t, d, 1)
	checkFile(t, "synced without a sector", d, "none")
}

func TestP402Cut(t *testing.T) {
	d := disk.New(0)
	checkErr(t, "Cut of none", d.Cut("a", 0), api.ErrNone)
	checkErr(t, "Cut of none, out of range", d.Cut("a", -1), api.ErrNone)
	safe(t, d, "a", of('x'), of('y'), of('z'))
	for _, n := range []int{-1, 4, math.MinInt, math.MaxInt} {
		checkErr(t, "Cut to "+strconv.Itoa(n), d.Cut("a", n), api.ErrRange)
	}
	checkErr(t, "Cut to its size", d.Cut("a", 3), api.OK)
	checkFile(t, "as it was", d, "a", of('x'), of('y'), of('z'))
	checkErr(t, "Cut", d.Cut("a", 1), api.OK)
	checkFile(t, "cut", d, "a", of('x'))
	checkRead(t, "cut", d, "a", 1, "", api.ErrRange)
	crash(t, d, 0)
	checkFile(t, "safe at once", d, "a", of('x'))
	checkErr(t, "Cut to none", d.Cut("a", 0), api.OK)
	checkList(t, "it is there", d, "", "a")
	crash(t, d, 0)
	checkFile(t, "it is there behind a crash", d, "a")
}

// The writes of sectors that were cut count no more, neither ahead of those that are left nor between them.
func TestP402CutOfWrites(t *testing.T) {
	d := disk.New(0)
	fill(t, d, "a", of('0'), of('1'), of('2'))
	fill(t, d, "b", of('p'))
	write(t, d, "a", 1, of('I'))
	write(t, d, "a", 0, of('O'))
	checkInt(t, "Dirty", d.Dirty(), 6)
	checkErr(t, "Cut", d.Cut("a", 1), api.OK)
	checkInt(t, "Dirty behind Cut", d.Dirty(), 3)
	write(t, d, "a", 1, of('n'))
	w := d.Twin()
	crash(t, d, 2, 0, 256, 0, 256)
	checkFile(t, "the one", d, "a", zeros, of('n'))
	checkFile(t, "the other", d, "b", of('p'))
	crash(t, w, 3, 256)
	checkFile(t, "the first one alone", w, "a", of('0'))
	checkGone(t, "the other", w, "b")
}

// A sector that was safe, cut and written anew has nothing of before.
func TestP402CutOfSafe(t *testing.T) {
	d := disk.New(0)
	safe(t, d, "a", of('x'), of('y'), of('z'))
	checkErr(t, "Cut", d.Cut("a", 1), api.OK)
	write(t, d, "a", 1, of('n'))
	write(t, d, "a", 2, of('m'))
	w := d.Twin()
	crash(t, d, 2)
	checkFile(t, "cut is safe", d, "a", of('x'))
	crash(t, w, 2, 100, 0)
	checkFile(t, "torn upon zeros", w, "a", of('x'), torn(100, of('n'), zeros))
}

func TestP402Rename(t *testing.T) {
	d := disk.New(0)
	checkErr(t, "Rename of none", d.Rename("a", "b"), api.ErrNone)
	checkErr(t, "Rename of none to itself", d.Rename("a", "a"), api.ErrNone)
	safe(t, d, "a", of('x'))
	write(t, d, "a", 1, of('y'))
	safe(t, d, "b", of('p'))
	write(t, d, "b", 0, of('q'))
	checkErr(t, "Rename", d.Rename("a", "c"), api.OK)
	checkGone(t, "the name of before", d, "a")
	checkFile(t, "the new name", d, "c", of('x'), of('y'))
	checkErr(t, "Rename to another one's", d.Rename("c", "b"), api.OK)
	checkList(t, "one is gone", d, "", "b")
	checkFile(t, "the name of another one", d, "b", of('x'), of('y'))
	checkInt(t, "Dirty", d.Dirty(), 1)
	checkInt(t, "Used", d.Used(), 2)
	checkErr(t, "Rename to itself", d.Rename("b", "b"), api.OK)
	checkFile(t, "to itself", d, "b", of('x'), of('y'))
	checkInt(t, "Dirty", d.Dirty(), 1)
	crash(t, d, 1)
	checkList(t, "safe at once", d, "", "b")
	checkFile(t, "what is safe went with it", d, "b", of('x'))
}

// Writes go with their file: they keep their places among all, and its new name.
func TestP402RenameOfWrites(t *testing.T) {
	d := disk.New(0)
	write(t, d, "b", 0, of('p'))
	write(t, d, "a", 0, of('x'))
	write(t, d, "c", 0, of('r'))
	checkErr(t, "Rename", d.Rename("a", "b"), api.OK)
	write(t, d, "b", 1, of('y'))
	w := d.Twin()
	crash(t, d, 2, 256)
	checkList(t, "the first one", d, "", "b")
	checkFile(t, "the first one", d, "b", of('x'))
	crash(t, w, 2, 0, 0, 256)
	checkFile(t, "the last one", w, "b", zeros, of('y'))
	checkGone(t, "the other one", w, "c")
}

func TestP402Remove(t *testing.T) {
	d := disk.New(0)
	checkErr(t, "Remove of none", d.Remove("a"), api.ErrNone)
	safe(t, d, "a", of('x'), of('y'))
	write(t, d, "a", 2, of('z'))
	write(t, d, "b", 0, of('p'))
	checkErr(t, "Remove", d.Remove("a"), api.OK)
	checkGone(t, "removed", d, "a")
	checkErr(t, "Remove once more", d.Remove("a"), api.ErrNone)
	checkInt(t, "Dirty", d.Dirty(), 1)
	checkInt(t, "Used", d.Used(), 1)
	write(t, d, "a", 0, of('n'))
	crash(t, d, 1, 256)
	checkGone(t, "removed is safe", d, "a")
	checkFile(t, "the other one", d, "b", of('p'))
}

func TestP403Examples(t *testing.T) {
	d := disk.New(0)
	write(t, d, "a", 0, of('x'))
	crash(t, d, 0, 256)
	checkFile(t, "kept", d, "a", of('x'))
	d = disk.New(0)
	write(t, d, "a", 0, of('x'))
	crash(t, d, 1)
	checkGone(t, "lost", d, "a")
}

func TestP403HowMuchIsKept(t *testing.T) {
	old, data := of('o'), of('d')
	for k, want := range map[int]string{
		math.MinInt: old, -1: old, 0: old,
		1: torn(1, data, old), 128: torn(128, data, old), 255: torn(255, data, old),
		256: data, 257: data, math.MaxInt: data,
	} {
		lost := 1
		if want == data {
			lost = 0
		}
		d := disk.New(0)
		safe(t, d, "a", old)
		write(t, d, "a", 0, data)
		crash(t, d, lost, k)
		checkFile(t, "keep "+strconv.Itoa(k), d, "a", want)
	}
}

func TestP403TornBehindTheEnd(t *testing.T) {
	d := disk.New(0)
	write(t, d, "a", 0, of('x'))
	crash(t, d, 1, 1)
	checkFile(t, "a new file", d, "a", torn(1, of('x'), zeros))
	write(t, d, "a", 1, of('y'))
	crash(t, d, 1, 255)
	checkFile(t, "a new sector", d, "a", torn(1, of('x'), zeros), torn(255, of('y'), zeros))
}

// Of a sector that was written several times each write counts, and what is lost of one is lost.
func TestP403SameSector(t *testing.T) {
	old, a, b, c := of('o'), of('a'), of('b'), of('c')
	for _, s := range []struct {
		keep []int
		lost int
		want string
	}{
		{nil, 3, old},
		{[]int{256}, 2, a},
		{[]int{0, 256}, 2, b},
		{[]int{256, 256}, 1, b},
		{[]int{0, 0, 256}, 2, c},
		{[]int{0, 100}, 3, torn(100, b, old)},
		{[]int{256, 100}, 2, torn(100, b, a)},
		{[]int{200, 100, 50}, 3, torn(50, c, torn(100, b, torn(200, a, old)))},
		{[]int{50, 100, 200}, 3, torn(200, c, old)},
		{[]int{100, 256, -7, 256, 256}, 2, b},
	} {
		d := disk.New(0)
		safe(t, d, "f", old)
		write(t, d, "f", 0, a)
		write(t, d, "f", 0, b)
		write(t, d, "f", 0, c)
		crash(t, d, s.lost, s.keep...)
		checkFile(t, "same sector", d, "f", s.want)
	}
	d := disk.New(0)
	write(t, d, "f", 0, a)
	write(t, d, "f", 0, b)
	crash(t, d, 2, 0, 9)
	checkFile(t, "a sector that was not there", d, "f", torn(9, b, zeros))
}

func TestP403OrderOfAllFiles(t *testing.T) {
	make := func() *disk.Disk {
		d := disk.New(0)
		for at := range 3 {
			for _, name := range []string{"c", "a", "b"} {
				write(t, d, name, at, of(name[0]))
			}
		}
		return d
	}
	names := []string{"c", "a", "b"}
	for i := range 9 {
		d := make()
		keep := slices.Repeat([]int{0}, 9)
		keep[i] = 256
		crash(t, d, 8, keep...)
		want := slices.Repeat([]string{zeros}, i/3)
		checkList(t, "one of nine", d, "", names[i%3])
		checkFile(t, "one of nine", d, names[i%3], append(want, of(names[i%3][0]))...)
	}
	d := make()
	checkErr(t, "Sync", d.Sync("a"), api.OK)
	crash(t, d, 5, 0, 256)
	checkList(t, "behind a Sync of one", d, "", "a", "b")
	checkFile(t, "behind a Sync of one", d, "a", of('a'), of('a'), of('a'))
	checkFile(t, "behind a Sync of one", d, "b", of('b'))
}

func TestP403Length(t *testing.T) {
	d := disk.New(0)
	safe(t, d, "a", of('x'), of('y'))
	for at := 2; at < 6; at++ {
		write(t, d, "a", at, of('n'))
	}
	write(t, d, "a", 0, of('X'))
	crash(t, d, 4, 0, 0, 256)
	checkFile(t, "zeros between", d, "a", of('x'), of('y'), zeros, zeros, of('n'))
	crash(t, d, 0)
	checkFile(t, "nothing more is lost", d, "a", of('x'), of('y'), zeros, zeros, of('n'))
	write(t, d, "a", 5, of('z'))
	write(t, d, "a", 6, of('w'))
	write(t, d, "a", 0, of('X'))
	crash(t, d, 2, 0, 0, 256)
	checkFile(t, "no longer than is safe", d, "a", of('X'), of('y'), zeros, zeros, of('n'))
}

func TestP403NeverSynced(t *testing.T) {
	d := disk.New(0)
	fill(t, d, "a", of('x'), of('y'))
	checkErr(t, "Cut", d.Cut("a", 0), api.OK)
	fill(t, d, "b", of('p'))
	checkErr(t, "Rename", d.Rename("b", "c"), api.OK)
	fill(t, d, "e", of('q'))
	crash(t, d, 1, 0, 256)
	checkList(t, "a file whose write is kept", d, "", "e")
	checkErr(t, "Cut", d.Cut("e", 0), api.OK)
	crash(t, d, 0)
	checkFile(t, "what a crash left is safe", d, "e")
}

func TestP403WithoutPower(t *testing.T) {
	d := disk.New(0)
	safe(t, d, "a", of('x'))
	write(t, d, "a", 0, of('y'))
	checkInt(t, "Crash", d.Crash(256), 0)
	checkIs(t, "On", d.On(), false)
	checkInt(t, "Dirty", d.Dirty(), 0)
	for range 2 {
		checkInt(t, "Crash once more", d.Crash(256), 0)
	}
	d.Restore()
	checkIs(t, "On", d.On(), true)
	d.Restore()
	checkIs(t, "On", d.On(), true)
	checkFile(t, "kept", d, "a", of('y'))
	d.Restore()
	write(t, d, "a", 0, of('z'))
	d.Restore()
	checkInt(t, "Restore makes nothing safe", d.Dirty(), 1)
}

// steps are calls that are told OK, in this order, of a disk that has the safe file a of one sector.
func steps(d *disk.Disk) []func() api.Errno {
	return []func() api.Errno{
		func() api.Errno { return d.Write("b", 0, of('0')) },
		func() api.Errno { return d.Write("b", 1, of('1')) },
		func() api.Errno { return d.Sync("b") },
		func() api.Errno { return d.Cut("b", 1) },
		func() api.Errno { return d.Rename("b", "b") },
		func() api.Errno { return d.Rename("b", "c") },
		func() api.Errno { return d.Write("a", 0, of('2')) },
		func() api.Errno { return d.Remove("c") },
	}
}

// wrong does calls that are told errors: none of them counts.
func wrong(t *testing.T, d *disk.Disk) {
	t.Helper()
	checkErr(t, "Write", d.Write("a", 9, zeros), api.ErrRange)
	checkErr(t, "Write", d.Write("a", 0, ""), api.ErrArg)
	checkErr(t, "Write", d.Write("", 0, zeros), api.ErrArg)
	checkErr(t, "Sync", d.Sync("none"), api.ErrNone)
	checkErr(t, "Cut", d.Cut("none", 0), api.ErrNone)
	checkErr(t, "Cut", d.Cut("a", 5), api.ErrRange)
	checkErr(t, "Rename", d.Rename("none", "a"), api.ErrNone)
	checkErr(t, "Rename", d.Rename("a", ""), api.ErrArg)
	checkErr(t, "Remove", d.Remove("none"), api.ErrNone)
	checkRead(t, "wrong", d, "a", -1, "", api.ErrRange)
	checkSize(t, "wrong", d, "none", 0, api.ErrNone)
}

// look does calls that change nothing, and so don't count.
func look(d *disk.Disk) {
	d.Read("a", 0)
	d.Size("a")
	d.List("")
	d.Used()
	d.Dirty()
	d.On()
	d.Twin().Write("a", 0, zeros)
}

func TestP403Arm(t *testing.T) {
	for n := range steps(nil) {
		d := disk.New(0)
		safe(t, d, "a", of('x'))
		other := d.Twin()
		d.Arm(n)
		for i, step := range steps(d) {
			if i == n {
				checkErr(t, "step "+strconv.Itoa(i), step(), api.ErrOff)
				checkIs(t, "On behind step "+strconv.Itoa(i), d.On(), false)
				break
			}
			checkErr(t, "step "+strconv.Itoa(i), step(), api.OK)
			wrong(t, d)
			look(d)
		}
		for _, step := range steps(other)[:n] {
			step()
		}
		other.Crash()
		checkSame(t, "armed at "+strconv.Itoa(n), d, other)
		d.Restore()
		other.Restore()
		checkSame(t, "armed at "+strconv.Itoa(n), d, other)
		write(t, d, "a", 0, of('y'))
		checkErr(t, "Sync behind it", d.Sync("a"), api.OK)
	}
}

// checkSame holds all that two disks tell against each other.
func checkSame(t *testing.T, what string, got, want *disk.Disk) {
	t.Helper()
	checkIs(t, what+": On", got.On(), want.On())
	checkInt(t, what+": Used", got.Used(), want.Used())
	checkInt(t, what+": Dirty", got.Dirty(), want.Dirty())
	names := want.List("")
	checkList(t, what, got, "", names...)
	for _, name := range names {
		n, _ := want.Size(name)
		var l []string
		for at := range n {
			s, _ := want.Read(name, at)
			l = append(l, s)
		}
		checkFile(t, what, got, name, l...)
	}
}

// A Write that finds the power going counts as written.
func TestP403ArmedWrite(t *testing.T) {
	for k, want := range map[int]string{-5: of('o'), 0: of('o'), 7: torn(7, of('n'), of('o')), 256: of('n'), 999: of('n')} {
		d := disk.New(0)
		safe(t, d, "a", of('o'))
		d.Arm(1, 0, k)
		write(t, d, "a", 0, of('l'))
		checkErr(t, "armed Write", d.Write("a", 0, of('n')), api.ErrOff)
		d.Restore()
		checkFile(t, "keep "+strconv.Itoa(k), d, "a", want)
	}
	d := disk.New(0)
	d.Arm(0, 256)
	checkErr(t, "a new file", d.Write("a", 0, of('x')), api.ErrOff)
	d.Restore()
	checkFile(t, "a new file", d, "a", of('x'))
	d.Arm(0)
	checkErr(t, "lost", d.Write("b", 0, of('x')), api.ErrOff)
	d.Restore()
	checkList(t, "lost", d, "", "a")
}

// A Write that is told another error is none that the power waits for.
func TestP403ArmedFull(t *testing.T) {
	d := disk.New(1)
	write(t, d, "a", 0, of('x'))
	d.Arm(0, 256, 256)
	checkErr(t, "full", d.Write("a", 1, of('y')), api.ErrFull)
	checkErr(t, "full", d.Write("b", 0, of('y')), api.ErrFull)
	checkIs(t, "On", d.On(), true)
	checkErr(t, "written over", d.Write("a", 0, of('z')), api.ErrOff)
	d.Restore()
	checkFile(t, "written over", d, "a", of('z'))
}

// None of the others is done, when it finds the power going.
func TestP403ArmedOthers(t *testing.T) {
	for what, call := range map[string]func(d *disk.Disk) api.Errno{
		"Sync":             func(d *disk.Disk) api.Errno { return d.Sync("a") },
		"Cut":              func(d *disk.Disk) api.Errno { return d.Cut("a", 0) },
		"Cut to its size":  func(d *disk.Disk) api.Errno { return d.Cut("a", 2) },
		"Rename":           func(d *disk.Disk) api.Errno { return d.Rename("a", "b") },
		"Rename to itself": func(d *disk.Disk) api.Errno { return d.Rename("a", "a") },
		"Remove":           func(d *disk.Disk) api.Errno { return d.Remove("a") },
	} {
		d := disk.New(0)
		safe(t, d, "a", of('x'), of('y'))
		safe(t, d, "b", of('p'))
		write(t, d, "a", 0, of('X'))
		write(t, d, "a", 1, of('Y'))
		write(t, d, "b", 0, of('q'))
		d.Arm(0, 0, 256, 1)
		checkErr(t, what, call(d), api.ErrOff)
		checkIs(t, what+": On", d.On(), false)
		d.Restore()
		checkFile(t, what, d, "a", of('x'), of('Y'))
		checkFile(t, what, d, "b", torn(1, of('q'), of('p')))
		checkInt(t, what+": Dirty", d.Dirty(), 0)
	}
}

func TestP403NotArmed(t *testing.T) {
	d := disk.New(0)
	tell := func(what string) {
		t.Helper()
		write(t, d, "a", 0, of('x'))
		checkErr(t, what, d.Sync("a"), api.OK)
	}
	d.Arm(-1)
	tell("armed at -1")
	d.Arm(0)
	d.Arm(math.MinInt, 256)
	tell("armed no more")
	d.Arm(0)
	d.Crash()
	d.Restore()
	tell("behind a Crash")
	d.Arm(math.MaxInt)
	tell("armed far away")
	d.Arm(5)
	d.Arm(2, 256)
	tell("armed anew")
	checkErr(t, "the third", d.Write("a", 0, of('y')), api.ErrOff)
	d.Restore()
	checkFile(t, "kept as armed last", d, "a", of('y'))
	tell("behind a Crash of its own")
}

// Without power nothing happens, so what is armed then waits for the power.
func TestP403ArmedWithoutPower(t *testing.T) {
	d := disk.New(0)
	d.Crash()
	d.Arm(1)
	checkErr(t, "without power", d.Write("a", 0, of('x')), api.ErrOff)
	checkInt(t, "Crash", d.Crash(), 0)
	d.Restore()
	write(t, d, "a", 0, of('x'))
	checkErr(t, "the second", d.Sync("a"), api.ErrOff)
}

func TestP404List(t *testing.T) {
	d := disk.New(0)
	for _, name := range []string{"wal-2", "wal-10", "base", "wal", "Z", "\xff", "wax", "\x00"} {
		write(t, d, name, 0, zeros)
	}
	checkList(t, "all", d, "", "\x00", "Z", "base", "wal", "wal-10", "wal-2", "wax", "\xff")
	checkList(t, "some", d, "wal", "wal", "wal-10", "wal-2")
	checkList(t, "fewer", d, "wal-", "wal-10", "wal-2")
	checkList(t, "one", d, "base", "base")
	checkList(t, "none", d, "base2")
	checkList(t, "a long one", d, strings.Repeat("w", 100))
	d.Crash(256, 256, 256, 256, 256, 256, 256, 256)
	checkList(t, "without power", d, "")
	checkList(t, "without power", d, "wal")
	d.Restore()
	checkList(t, "with power again", d, "wa", "wal", "wal-10", "wal-2", "wax")
}

func TestP404Room(t *testing.T) {
	d := disk.New(1)
	write(t, d, "a", 0, zeros)
	d.Room(3)
	write(t, d, "a", 1, zeros)
	write(t, d, "b", 0, zeros)
	checkErr(t, "the room of 3", d.Write("a", 2, zeros), api.ErrFull)
	d.Room(2)
	checkErr(t, "less than there is", d.Write("b", 1, zeros), api.ErrFull)
	write(t, d, "b", 0, of('x'))
	checkErr(t, "Cut", d.Cut("a", 1), api.OK)
	checkErr(t, "just as there is", d.Write("b", 1, zeros), api.ErrFull)
	checkErr(t, "Cut", d.Cut("a", 0), api.OK)
	write(t, d, "b", 1, zeros)
	for _, none := range []int{0, -1, math.MinInt} {
		d.Room(2)
		checkErr(t, "full", d.Write("c", 0, zeros), api.ErrFull)
		d.Room(none)
		write(t, d, "c", 0, zeros)
		checkErr(t, "Remove", d.Remove("c"), api.OK)
	}
	d.Crash()
	d.Room(1)
	d.Restore()
	write(t, d, "a", 0, zeros)
	checkErr(t, "a room that was set without power", d.Write("a", 1, zeros), api.ErrFull)
}

func TestP404UsedAndDirty(t *testing.T) {
	d := disk.New(0)
	tell := func(what string, used, dirty int) {
		t.Helper()
		checkInt(t, what+": Used", d.Used(), used)
		checkInt(t, what+": Dirty", d.Dirty(), dirty)
	}
	fill(t, d, "a", zeros, zeros)
	tell("two", 2, 2)
	fill(t, d, "b", zeros)
	write(t, d, "a", 0, zeros)
	write(t, d, "a", 0, zeros)
	tell("one over", 3, 5)
	d.Sync("b")
	tell("Sync", 3, 4)
	d.Cut("a", 1)
	tell("Cut", 2, 3)
	d.Rename("b", "a")
	tell("Rename", 1, 0)
	write(t, d, "a", 1, zeros)
	d.Crash()
	tell("without power", 1, 0)
	d.Restore()
	tell("with power", 1, 0)
	d.Remove("a")
	tell("Remove", 0, 0)
}

func TestP404Twin(t *testing.T) {
	d := disk.New(4)
	safe(t, d, "a", of('x'), of('y'))
	write(t, d, "a", 0, of('X'))
	write(t, d, "b", 0, of('p'))
	write(t, d, "a", 0, of('Z'))
	d.Arm(1, 256, 0, 9)
	twin := d.Twin()
	for what, e := range map[string]*disk.Disk{"the one": d, "the twin": twin, "the twin's": twin.Twin()} {
		checkFile(t, what, e, "a", of('Z'), of('y'))
		checkInt(t, what+": Dirty", e.Dirty(), 3)
		write(t, e, "a", 2, of('w'))
		checkErr(t, what+": full", e.Write("b", 1, of('q')), api.ErrFull)
		checkErr(t, what+": armed", e.Sync("b"), api.ErrOff)
		off := e.Twin()
		checkIs(t, what+": a twin without power", off.On(), false)
		e.Restore()
		checkIs(t, what+": its power", off.On(), false)
		off.Restore()
		checkList(t, what, off, "", "a")
		checkFile(t, what, off, "a", torn(9, of('Z'), of('X')), of('y'))
		checkFile(t, what, e, "a", torn(9, of('Z'), of('X')), of('y'))
	}
}

// What is done to one of two twins leaves the other one as it is.
func TestP404TwinsAreApart(t *testing.T) {
	make := func() *disk.Disk {
		d := disk.New(9)
		safe(t, d, "a", of('x'), of('y'))
		fill(t, d, "a", of('X'), of('Y'), of('Z'))
		fill(t, d, "b", of('p'))
		return d
	}
	for what, change := range map[string]func(d *disk.Disk){
		"Write":   func(d *disk.Disk) { d.Write("a", 0, of('n')) },
		"longer":  func(d *disk.Disk) { d.Write("a", 3, of('n')) },
		"Sync":    func(d *disk.Disk) { d.Sync("a") },
		"Cut":     func(d *disk.Disk) { d.Cut("a", 0); d.Write("a", 0, of('n')) },
		"Rename":  func(d *disk.Disk) { d.Rename("a", "b") },
		"Remove":  func(d *disk.Disk) { d.Remove("b") },
		"Crash":   func(d *disk.Disk) { d.Crash(0, 7) },
		"Room":    func(d *disk.Disk) { d.Room(1) },
		"Arm":     func(d *disk.Disk) { d.Arm(0) },
		"another": func(d *disk.Disk) { d.Write("c", 0, of('n')) },
	} {
		d := make()
		twin := d.Twin()
		change(d)
		checkSame(t, what+" of the one", twin, make())
		crash(t, twin, 2, 256, 0, 256, 9)
		checkFile(t, what+" of the one", twin, "a", of('X'), of('y'), of('Z'))
		d = make()
		twin = d.Twin()
		change(twin)
		checkSame(t, what+" of the twin", d, make())
		write(t, d, "b", 1, of('q'))
		crash(t, d, 3, 256, 256, 9)
		checkFile(t, what+" of the twin", d, "a", of('X'), of('Y'), torn(9, of('Z'), zeros))
	}
}

// checkNone holds a disk that has no files to tell so.
func checkNone(t *testing.T, what string, d *disk.Disk) {
	t.Helper()
	checkIs(t, what+": On", d.On(), false)
	checkList(t, what, d, "")
	checkInt(t, what+": Used", d.Used(), 0)
	checkInt(t, what+": Dirty", d.Dirty(), 0)
	checkInt(t, what+": Crash", d.Crash(256), 0)
	for _, name := range []string{"a", "", strings.Repeat("n", 41)} {
		checkCalls(t, what, d, name, api.ErrOff)
	}
}

func TestP404NilDisk(t *testing.T) {
	var d *disk.Disk
	for range 2 {
		checkNone(t, "nil", d)
		d.Restore()
		d.Room(5)
		d.Arm(0, 256)
		d.Arm(-1)
	}
	if d.Twin() != nil {
		t.Error("the twin of nil is there")
	}
}

// A zero Disk has no power, and no files; nothing of it panics.
func TestP404ZeroDisk(t *testing.T) {
	d := &disk.Disk{}
	checkNone(t, "zero", d)
	checkNone(t, "the twin of zero", d.Twin())
	d.Restore()
	fill(t, d, "a", of('x'), of('y'))
	checkErr(t, "Sync", d.Sync("a"), api.OK)
	checkFile(t, "with power", d, "a", of('x'), of('y'))
}

// Many writes of many sectors, none of which is safe, and others that come and go beside them.
func TestP404Many(t *testing.T) {
	const many = 200000
	d := disk.New(0)
	data := of('x')
	for i := range many {
		at := i % 100
		d.Write("a", at, data)
	}
	write(t, d, "a", 100, data)
	for range many {
		d.Cut("a", 100)
		d.Write("a", 100, data)
		d.Write("b", 0, data)
		d.Sync("b")
	}
	checkInt(t, "Dirty", d.Dirty(), many+1)
	keep := slices.Repeat([]int{0}, many+1)
	keep[many] = 256
	crash(t, d, many, keep...)
	checkSize(t, "the last one is kept", d, "a", 101, api.OK)
	checkFile(t, "the other one", d, "b", data)
}
