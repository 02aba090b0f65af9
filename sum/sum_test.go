package sum_test

import (
	"hash/crc32"
	"slices"
	"strconv"
	"strings"
	"testing"

	"rootstock/api"
	"rootstock/sum"
)

// checkSum holds a sum against the one that is wanted.
func checkSum(t *testing.T, what string, got, want uint32) {
	t.Helper()
	if got != want {
		t.Errorf("%s: %#08x, not %#08x", what, got, want)
	}
}

// checkOpen holds what Open tells of bytes against the text or the error that are wanted.
func checkOpen(t *testing.T, what, b, want string, bad api.Errno) {
	t.Helper()
	got, e := sum.Open(b)
	if got != want || e != bad {
		t.Errorf("%s: %q, %d, not %q, %d", what, got, e, want, bad)
	}
}

// every tells a text of n bytes in which each number of a byte comes, the first one last.
func every(n int) string {
	b := make([]byte, n)
	for i := range b {
		b[i] = byte(255 - i)
	}
	return string(b)
}

// texts tells texts of many lengths and kinds.
func texts() []string {
	l := []string{"", "\x00", "\x00\x00\x00\x00", "\xff", "\xff\xff\xff\xff", "a", "abc", "123456789", "\u00e9\u4e16", "\xc3\x28"}
	for n := range 40 {
		l = append(l, every(n))
	}
	return append(l, every(255), every(256), every(257), strings.Repeat("page", 5000))
}

// slow goes step by step as P201 tells it, over one text.
func slow(s string) uint32 {
	x := uint64(1<<32 - 1)
	for _, c := range []byte(s) {
		x ^= uint64(c)
		for range 8 {
			odd := x%2 == 1
			x /= 2
			if odd {
				x ^= 0x82f63b78
			}
		}
	}
	return uint32(x ^ (1<<32 - 1))
}

func TestP201Of(t *testing.T) {
	checkSum(t, "example", sum.Of("1234", "56789"), 0xe3069283)
	checkSum(t, "no text", sum.Of(), 0)
	checkSum(t, "a nil list", sum.Of([]string(nil)...), 0)
	checkSum(t, "a text of nothing", sum.Of(""), 0)
	checkSum(t, "32 zeros", sum.Of(strings.Repeat("\x00", 32)), 0x8a9136aa)
	checkSum(t, "32 times 255", sum.Of(strings.Repeat("\xff", 32)), 0x62a8ab43)
	table := crc32.MakeTable(crc32.Castagnoli)
	for _, s := range texts() {
		checkSum(t, "Of "+strconv.Quote(s), sum.Of(s), slow(s))
		checkSum(t, "Of, by another way, "+strconv.Quote(s), sum.Of(s), crc32.Checksum([]byte(s), table))
	}
}

func TestP201OfEachByte(t *testing.T) {
	for v := range 256 {
		s := string([]byte{byte(v)})
		checkSum(t, "the byte "+strconv.Itoa(v), sum.Of(s), slow(s))
		checkSum(t, "and one behind it", sum.Of(s, "x"), slow(s+"x"))
	}
}

func TestP201OfSeveralIsOfAllInOne(t *testing.T) {
	s := every(300)
	for n := range len(s) + 1 {
		checkSum(t, "in two at "+strconv.Itoa(n), sum.Of(s[:n], s[n:]), slow(s))
	}
	checkSum(t, "with texts of nothing", sum.Of("", s[:1], "", "", s[1:], ""), slow(s))
	checkSum(t, "byte by byte", sum.Of(strings.Split("12345678", "")...), slow("12345678"))
	if sum.Of("12", "3") == sum.Of("3", "12") {
		t.Error("the order of texts makes no difference")
	}
}

func TestP201ListStays(t *testing.T) {
	l := []string{"a", "", "bc"}
	first := sum.Of(l...)
	if !slices.Equal(l, []string{"a", "", "bc"}) {
		t.Errorf("the list has become %q", l)
	}
	checkSum(t, "once more", sum.Of(l...), first)
}

func TestP201Seal(t *testing.T) {
	for s, want := range map[string]string{
		"":          "\x00\x00\x00\x00",
		"123456789": "123456789\x83\x92\x06\xe3",
	} {
		if got := sum.Seal(s); got != want {
			t.Errorf("Seal of %q: %q, not %q", s, got, want)
		}
	}
	for _, s := range texts() {
		x := slow(s)
		want := s + string([]byte{byte(x), byte(x >> 8), byte(x >> 16), byte(x >> 24)})
		if got := sum.Seal(s); got != want {
			t.Errorf("Seal of %q: %q, not %q", s, got, want)
		}
	}
}

func TestP201Open(t *testing.T) {
	checkOpen(t, "nothing", "", "", api.ErrShort)
	checkOpen(t, "3 bytes", "\x00\x00\x00", "", api.ErrShort)
	checkOpen(t, "a text of nothing", "\x00\x00\x00\x00", "", api.OK)
	checkOpen(t, "a wrong sum of nothing", "\x00\x00\x00\x01", "", api.ErrSum)
	checkOpen(t, "a text", "123456789\x83\x92\x06\xe3", "123456789", api.OK)
	checkOpen(t, "the highest first", "123456789\xe3\x06\x92\x83", "", api.ErrSum)
	checkOpen(t, "the sum ahead", "\x83\x92\x06\xe3123456789", "", api.ErrSum)
	checkOpen(t, "no sum", "123456789", "", api.ErrSum)
	checkOpen(t, "one byte is gone", "123456789\x83\x92\x06", "", api.ErrSum)
	checkOpen(t, "one byte more", "123456789\x83\x92\x06\xe3\x00", "", api.ErrSum)
}

func TestP202OpenOfSeal(t *testing.T) {
	for _, s := range texts() {
		checkOpen(t, "Open of Seal", sum.Seal(s), s, api.OK)
		checkOpen(t, "Open of Seal of Seal", sum.Seal(sum.Seal(s)), sum.Seal(s), api.OK)
	}
}

func TestP202OneByteIsChanged(t *testing.T) {
	for _, s := range []string{"", "\x00", "a", "123456789", strings.Repeat("\x00", 64), strings.Repeat("\xff", 64), every(257)} {
		whole := []byte(sum.Seal(s))
		for i := range whole {
			for by := 1; by < 256; by++ {
				whole[i] ^= byte(by)
				checkOpen(t, "byte "+strconv.Itoa(i)+" of "+strconv.Quote(s)+" is another", string(whole), "", api.ErrSum)
				whole[i] ^= byte(by)
			}
		}
	}
}
