package twig_test

import (
	"math"
	"slices"
	"strconv"
	"strings"
	"testing"
	"unsafe"

	"rootstock/api"
	"rootstock/twig"
)

const (
	bodyBytes = 232 // of a page's body
	maxKey    = 32
	lastPage  = 3999
)

// text tells a text of n bytes, each another than the ones beside it.
func text(n int) string {
	b := make([]byte, n)
	for i := range b {
		b[i] = byte(255 - i%255)
	}
	return string(b)
}

// kid tells a child.
func kid(key string, page int) api.Kid { return api.Kid{Key: key, Page: page} }

// kids tells children by their keys, each with a page of its own, which do not rise as the keys do.
func kids(keys ...string) []api.Kid {
	var l []api.Kid
	for i, k := range keys {
		l = append(l, kid(k, 300-i))
	}
	return l
}

// row tells n children in order, each of size bytes in a body (7 to 36).
func row(n, size int) []api.Kid {
	var l []api.Kid
	for i := range n {
		key := string([]byte{byte(i >> 16), byte(i >> 8), byte(i)})
		l = append(l, kid(key+text(size-7), 2+i%3998))
	}
	return l
}

// valid tells children that may be: the edges of each part.
func valid() []api.Kid {
	l := []api.Kid{{Page: 2}, kid("a/b", 77), kid("\x00", 5), kid("\x00\xff", 6), kid(text(maxKey), lastPage)}
	for _, n := range []int{0, 1, 2, 31, maxKey} {
		l = append(l, kid(text(n), 9))
	}
	for _, page := range []int{2, 3, 127, 128, 255, 256, 257, 3998, lastPage} {
		l = append(l, kid("k", page))
	}
	return l
}

// wrong tells children that may not be.
func wrong() []api.Kid {
	l := []api.Kid{{}, kid("m", 0), kid(text(33), 1)}
	for _, page := range []int{math.MinInt, -65534, -2, -1, 0, 1, 4000, 4001, 65535, 65536, 65538, 1<<32 + 2, math.MaxInt} {
		l = append(l, kid("m", page), kid("", page))
	}
	for _, n := range []int{33, 34, 255, 256, 257, 65535, 65536, 65537} {
		l = append(l, kid("m"+text(n-1), 9))
	}
	return l
}

// name tells a child for a message.
func name(k api.Kid) string {
	return "key of " + strconv.Itoa(len(k.Key)) + ", page " + strconv.Itoa(k.Page)
}

// body tells a body as P1001 tells it, byte for byte, also one that Lay never lays.
func body(l ...api.Kid) string {
	b := []byte{byte(len(l))}
	for _, k := range l {
		b = append(b, byte(k.Page), byte(k.Page>>8), byte(len(k.Key)), byte(len(k.Key)>>8))
		b = append(b, k.Key...)
	}
	return string(b)
}

// checkKids holds children against those that are wanted.
func checkKids(t *testing.T, what string, got []api.Kid, want ...api.Kid) {
	t.Helper()
	if !slices.Equal(got, want) {
		t.Errorf("%s: %v, not %v", what, got, want)
	}
}

// checkLay holds Lay to lay what is to be laid, and Read to read it.
func checkLay(t *testing.T, what string, l ...api.Kid) {
	t.Helper()
	b, e := twig.Lay(l...)
	if e != api.OK || b != body(l...) {
		t.Errorf("%s: Lay: %q, error %d, not %q", what, b, e, body(l...))
	}
	if n := twig.Size(l...); n != len(b) {
		t.Errorf("%s: Size: %d of a body of %d bytes", what, n, len(b))
	}
	checkRead(t, what, body(l...), l...)
}

// checkNoLay holds Lay to tell an error, and no body.
func checkNoLay(t *testing.T, what string, bad api.Errno, l ...api.Kid) {
	t.Helper()
	if b, e := twig.Lay(l...); b != "" || e != bad {
		t.Errorf("%s: Lay: %q, error %d, not %d", what, b, e, bad)
	}
}

// checkRead holds what Read tells against the children that are wanted.
func checkRead(t *testing.T, what, b string, want ...api.Kid) {
	t.Helper()
	got, e := twig.Read(b)
	if e != api.OK {
		t.Errorf("%s: Read: error %d", what, e)
	}
	checkKids(t, what+": Read", got, want...)
}

// checkNoRead holds Read to tell an error, and no children.
func checkNoRead(t *testing.T, what, b string, bad api.Errno) {
	t.Helper()
	if l, e := twig.Read(b); len(l) > 0 || e != bad {
		t.Errorf("%s: Read: %v, error %d, not %d", what, l, e, bad)
	}
}

// judge tells by P1001, from the bytes alone, what Read is to tell.
func judge(b string) ([]api.Kid, api.Errno) {
	if b == "" {
		return nil, api.ErrShort
	}
	var l []api.Kid
	many, rest := int(b[0]), b[1:]
	for range many {
		if len(rest) < 4 {
			return nil, api.ErrShort
		}
		page, n := int(rest[0])+256*int(rest[1]), int(rest[2])+256*int(rest[3])
		if rest = rest[4:]; len(rest) < n {
			return nil, api.ErrShort
		}
		l, rest = append(l, kid(rest[:n], page)), rest[n:]
	}
	if rest != "" || len(b) > bodyBytes || many == 0 {
		return nil, api.ErrForm
	}
	for i, k := range l {
		if len(k.Key) > maxKey || k.Page < 2 || k.Page > lastPage || i > 0 && l[i-1].Key >= k.Key {
			return nil, api.ErrForm
		}
	}
	return l, api.OK
}

// checkJudge holds Read against judge, and tells what that said.
func checkJudge(t *testing.T, what, b string) api.Errno {
	t.Helper()
	want, bad := judge(b)
	if bad != api.OK {
		checkNoRead(t, what, b, bad)
		return bad
	}
	checkRead(t, what, b, want...)
	if again, e := twig.Lay(want...); e != api.OK || again != b {
		t.Errorf("%s: Lay does not lay it: %q, error %d", what, again, e)
	}
	return api.OK
}

func TestP1001Valid(t *testing.T) {
	for _, k := range valid() {
		if !twig.Valid(k) {
			t.Errorf("a child may not be: %s", name(k))
		}
	}
	for _, k := range wrong() {
		if twig.Valid(k) {
			t.Errorf("a child may be: %s", name(k))
		}
	}
	for page := -300; page < 9000; page++ {
		if ok := twig.Valid(kid("", page)); ok != (page >= 2 && page <= lastPage) {
			t.Errorf("page %d: %v", page, ok)
		}
	}
}

func TestP1001Size(t *testing.T) {
	for _, c := range []struct {
		want int
		l    []api.Kid
	}{
		{1, nil},
		{1, []api.Kid{}},
		{5, []api.Kid{{}}},
		{5, []api.Kid{{Page: 3999}}},
		{6, kids("a")},
		{11, kids("a", "b")},
		{15, kids("", "a", "b")},
		{37, kids(text(32))},
		{70005, kids(text(70000))},
		{13, []api.Kid{kid("bb", -1), kid("aa", 0)}},
		{2101, row(300, 7)},
	} {
		if n := twig.Size(c.l...); n != c.want {
			t.Errorf("Size of %d children: %d, not %d", len(c.l), n, c.want)
		}
	}
	for _, k := range append(valid(), wrong()...) {
		if n := twig.Size(k, k); n != len(body(k, k)) {
			t.Errorf("Size of two of %s: %d, not %d", name(k), n, len(body(k, k)))
		}
	}
}

func TestP1001Lay(t *testing.T) {
	l := []api.Kid{kid("", 5), kid("m", 258), kid("mn", 3999)}
	want := "\x03" + "\x05\x00\x00\x00" + "\x02\x01\x01\x00m" + "\x9f\x0f\x02\x00mn"
	if b, e := twig.Lay(l...); b != want || e != api.OK {
		t.Errorf("three children: %q, error %d, not %q", b, e, want)
	}
	for _, k := range valid() {
		checkLay(t, name(k), k)
	}
	for n := 1; n <= 33; n++ {
		checkLay(t, strconv.Itoa(n)+" children", row(n, 7)...)
	}
	checkLay(t, "the same page twice", kid("a", 7), kid("b", 7), kid("c", 6))
}

// least tells n children, each as small as one may be: only one of them has an empty key.
func least(n int) []api.Kid {
	l := []api.Kid{kid("", 3000)}
	for i := range n - 1 {
		l = append(l, kid(string([]byte{byte(i)}), 2999-i))
	}
	return l
}

func TestP1001LayOfAsMuchAsFits(t *testing.T) {
	checkLay(t, "the least", least(46)...)
	checkNoLay(t, "one more of the least", api.ErrLong, least(47)...)
	for _, l := range [][]api.Kid{
		append(least(45), kid("\xf0", 9)),
		append(row(6, 36), kid("\x01", 9)),
		append(row(3, 7), kid("\x01"+text(31), 8), kid("\x02"+text(31), 7), kid("\x03"+text(31), 6), kid("\x04"+text(31), 5), kid("\x05"+text(31), 4), kid("\x06", 3)),
	} {
		last := len(l) - 1
		l[last].Key += text(bodyBytes - twig.Size(l...))
		if n := len(body(l...)); n != bodyBytes {
			t.Fatalf("a full body has %d bytes", n)
		}
		checkLay(t, "a full body of "+strconv.Itoa(len(l)), l...)
		l[last].Key += "+"
		if !twig.Valid(l[last]) {
			t.Fatalf("the last one may not be")
		}
		checkNoLay(t, "a byte too much", api.ErrLong, l...)
		checkNoRead(t, "a byte too much", body(l...), api.ErrForm)
	}
	for _, n := range []int{47, 48, 254, 255, 256} {
		checkNoLay(t, strconv.Itoa(n)+" of the least", api.ErrLong, least(n)...)
	}
	for _, n := range []int{34, 255, 256, 257, 512, 5000} {
		checkNoLay(t, strconv.Itoa(n)+" children", api.ErrLong, row(n, 7)...)
	}
}

func TestP1001LayOfWhatMayNotBe(t *testing.T) {
	checkNoLay(t, "none", api.ErrArg)
	checkNoLay(t, "none", api.ErrArg, []api.Kid{}...)
	for _, k := range wrong() {
		checkNoLay(t, name(k), api.ErrArg, k)
		checkNoLay(t, name(k)+", the first one", api.ErrArg, k, kid("\xff\xff", 9))
		checkNoLay(t, name(k)+", in the middle", api.ErrArg, kid("", 9), k, kid("\xff\xff", 9))
		checkNoLay(t, name(k)+", the last one", api.ErrArg, kid("", 9), kid("a", 8), k)
		checkNoLay(t, name(k)+", behind more than fits", api.ErrArg, append(row(300, 30), k)...)
	}
}

// keys tells some in the order of their bytes, none at the front.
func keys() []string {
	return []string{"", "\x00", "\x00\x00", "\x00\xff", "\x01", "-", "/", "1", "10", "2", "A", "Z", "a", "a\x00", "aa", "ab", "b", "z", "\x7f", "\x80", "ä", "€", "\xff", "\xff\x00", "\xff\xff"}
}

func TestP1001KeysRise(t *testing.T) {
	for i, a := range keys() {
		for k, b := range keys() {
			what := strconv.Quote(a) + " ahead of " + strconv.Quote(b)
			l := kids(a, b)
			if i < k {
				checkLay(t, what, l...)
				continue
			}
			checkNoLay(t, what, api.ErrArg, l...)
			checkNoRead(t, what, body(l...), api.ErrForm)
			checkNoLay(t, what+", behind more than fits", api.ErrArg, append(row(300, 30), l...)...)
			checkNoCut(t, what, l...)
		}
	}
	l := kids("", "a", "b", "c", "d", "e")
	for i := range l {
		for k := range i {
			swapped := slices.Clone(l)
			swapped[i], swapped[k] = swapped[k], swapped[i]
			checkNoLay(t, "two that changed places", api.ErrArg, swapped...)
			checkNoLay(t, "one that comes twice", api.ErrArg, slices.Insert(slices.Clone(l), i, l[k])...)
			checkNoLay(t, "a key that comes twice", api.ErrArg, slices.Insert(slices.Clone(l), i, kid(l[k].Key, 9))...)
		}
	}
}

func TestP1001LayWritesNothing(t *testing.T) {
	l := kids("", "b", "c")
	b, _ := twig.Lay(l...)
	checkKids(t, "the children", l, kids("", "b", "c")...)
	l[1] = kid("x", 9)
	if b != body(kids("", "b", "c")...) {
		t.Errorf("the body changed: %q", b)
	}
}

func TestP1001ReadOfOtherBytes(t *testing.T) {
	a, b := kid("a", 5), kid("b", 7)
	checkRead(t, "as it was laid", body(a, b), a, b)
	for what, c := range map[string]struct {
		b   string
		bad api.Errno
	}{
		"nothing":                         {"", api.ErrShort},
		"no children":                     {"\x00", api.ErrForm},
		"none, and a byte":                {"\x00\x00", api.ErrForm},
		"none, and a child":               {"\x00" + body(a)[1:], api.ErrForm},
		"how many alone":                  {"\x01", api.ErrShort},
		"half a page":                     {"\x01\x05", api.ErrShort},
		"no key":                          {"\x01\x05\x00", api.ErrShort},
		"one that is not there":           {"\x03" + body(a, b)[1:], api.ErrShort},
		"many that are not there":         {"\xff" + body(a, b)[1:], api.ErrShort},
		"a key longer than there is":      {"\x01\x05\x00\x02\x00a", api.ErrShort},
		"a key far longer than there is":  {"\x01\x05\x00\xff\xffa", api.ErrShort},
		"one more than it says":           {"\x01" + body(a, b)[1:], api.ErrForm},
		"a byte behind it":                {body(a, b) + "\x00", api.ErrForm},
		"zero bytes up to the end":        {body(a, b) + strings.Repeat("\x00", bodyBytes-len(body(a, b))), api.ErrForm},
		"a key too long":                  {body(kid(text(33), 5)), api.ErrForm},
		"page 0":                          {body(kid("", 0)), api.ErrForm},
		"page 1":                          {body(a, kid("b", 1)), api.ErrForm},
		"page 4000":                       {body(kid("a", 4000), b), api.ErrForm},
		"page 65535":                      {body(a, kid("b", 65535)), api.ErrForm},
		"the same key twice":              {body(a, kid("a", 7)), api.ErrForm},
		"no key twice":                    {body(kid("", 5), kid("", 7)), api.ErrForm},
		"keys that fall":                  {body(b, a), api.ErrForm},
		"keys that fall at the end":       {body(a, kid("c", 8), b), api.ErrForm},
		"no key at the end":               {body(a, kid("", 8)), api.ErrForm},
		"a byte more than a body":         {body(least(46)...) + "\x00\x00\x00", api.ErrForm},
		"one more than fits":              {body(least(47)...), api.ErrForm},
		"255 children":                    {body(row(255, 7)...), api.ErrForm},
		"page 0, and too few bytes":       {"\x02" + body(kid("a", 0))[1:], api.ErrShort},
		"keys that fall, and too few":     {"\x03" + body(b, a)[1:], api.ErrShort},
		"page 1, and bytes behind it":     {body(kid("a", 1)) + "\x00", api.ErrForm},
		"a key too long, and one missing": {"\x02" + body(kid(text(33), 5))[1:], api.ErrShort},
	} {
		checkNoRead(t, what, c.b, c.bad)
		checkJudge(t, what, c.b)
	}
}

// Each byte of a body is changed to each other one; each body is cut, and made longer.
func TestP1001ReadOfEachChangedByte(t *testing.T) {
	told := map[api.Errno]int{}
	for _, l := range [][]api.Kid{
		{kid("", 5), kid("a", 258), kid("ab", 3999), kid("b", 2)},
		{kid(text(maxKey), 77)},
		row(33, 7),
		least(46),
		row(6, 36),
	} {
		b := []byte(body(l...))
		for i := range b {
			was := b[i]
			for c := range 256 {
				b[i] = byte(c)
				told[checkJudge(t, "byte "+strconv.Itoa(i)+" is "+strconv.Itoa(c), string(b))]++
			}
			b[i] = was
			checkNoRead(t, strconv.Itoa(i)+" bytes", string(b[:i]), api.ErrShort)
		}
		for n := 1; n < 8; n++ {
			checkNoRead(t, "longer", string(b)+strings.Repeat("\x00", n), api.ErrForm)
		}
	}
	for _, e := range []api.Errno{api.OK, api.ErrShort, api.ErrForm} {
		if told[e] < 1000 {
			t.Errorf("error %d came but %d times", e, told[e])
		}
	}
}

// What is read is new each time, and no piece of what was handed in.
func TestP1001ReadTellsNewChildren(t *testing.T) {
	l := kids("", "a", text(20))
	b := body(l...)
	got, _ := twig.Read(b)
	from := uintptr(unsafe.Pointer(unsafe.StringData(b)))
	for _, k := range got {
		if at := uintptr(unsafe.Pointer(unsafe.StringData(k.Key))); at >= from && at < from+uintptr(len(b)) {
			t.Errorf("%q is a piece of the body that was handed in", k.Key)
		}
	}
	clear(got[:cap(got)])
	checkRead(t, "read once more", b, l...)
}
