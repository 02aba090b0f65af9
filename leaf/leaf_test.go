package leaf_test

import (
	"math"
	"slices"
	"strconv"
	"strings"
	"testing"
	"unsafe"

	"rootstock/api"
	"rootstock/leaf"
)

// text tells a text of n bytes, each another than the ones beside it.
func text(n int) string {
	b := make([]byte, n)
	for i := range b {
		b[i] = byte(255 - i%255)
	}
	return string(b)
}

// item tells a plain item.
func item(key, value string) api.Item { return api.Item{Key: key, Value: value} }

// items tells plain items by their keys, each with a value of its own.
func items(keys ...string) []api.Item {
	var l []api.Item
	for _, k := range keys {
		l = append(l, item(k, "is "+k))
	}
	return l
}

// row tells n items in order, each of size bytes in a body (8 to 104).
func row(n, size int) []api.Item {
	var l []api.Item
	for i := range n {
		key := string([]byte{byte(i >> 16), byte(i >> 8), byte(i)})
		l = append(l, api.Item{Key: key, Value: text(size - 8), Kind: i % 3})
	}
	return l
}

// valid tells items that may be: each kind, and the edges of each part.
func valid() []api.Item {
	l := []api.Item{
		{Key: "a", Value: "1", Kind: api.Plain},
		{Key: "a", Value: "1", Kind: api.Far},
		{Key: "a", Value: "1", Kind: api.Within},
		{Key: "\x00"},
		{Key: "\xff", Value: "\x00\xff"},
		{Key: "a/b", Value: "/"},
		{Key: text(32), Value: text(96), Kind: api.Within},
	}
	for _, n := range []int{1, 2, 31, 32} {
		l = append(l, item(text(n), "v"))
	}
	for _, n := range []int{0, 1, 95, 96} {
		l = append(l, item("k", text(n)))
	}
	return l
}

// wrong tells items that may not be.
func wrong() []api.Item {
	l := []api.Item{{}, {Value: "1"}, {Kind: api.Far}}
	for _, kind := range []int{math.MinInt, -1, 3, 4, 255, 256, 257, 258, 1 << 32, math.MaxInt} {
		l = append(l, api.Item{Key: "m", Value: "1", Kind: kind})
	}
	for _, n := range []int{33, 255, 256, 257, 65535, 65536, 65537} {
		l = append(l, item("m"+text(n-1), "1"))
	}
	for _, n := range []int{97, 255, 256, 257, 65535, 65536, 65537} {
		l = append(l, item("m", text(n)))
	}
	return l
}

// name tells an item for a message.
func name(i api.Item) string {
	return "kind " + strconv.Itoa(i.Kind) + ", key of " + strconv.Itoa(len(i.Key)) + ", value of " + strconv.Itoa(len(i.Value))
}

// body tells a body as P901 tells it, byte for byte, also one that Lay never lays.
func body(l ...api.Item) string {
	b := []byte{byte(len(l))}
	for _, i := range l {
		b = append(b, byte(i.Kind), byte(len(i.Key)), byte(len(i.Key)>>8))
		b = append(b, i.Key...)
		b = append(b, byte(len(i.Value)), byte(len(i.Value)>>8))
		b = append(b, i.Value...)
	}
	return string(b)
}

// checkItems holds items against those that are wanted.
func checkItems(t *testing.T, what string, got []api.Item, want ...api.Item) {
	t.Helper()
	if !slices.Equal(got, want) {
		t.Errorf("%s: %v, not %v", what, got, want)
	}
}

// lay is leaf.Lay of what may be.
func lay(t *testing.T, l ...api.Item) string {
	t.Helper()
	b, e := leaf.Lay(l...)
	if e != api.OK {
		t.Fatalf("Lay of %v: error %d", l, e)
	}
	return b
}

// checkNoLay holds Lay to tell an error, and no body.
func checkNoLay(t *testing.T, what string, bad api.Errno, l ...api.Item) {
	t.Helper()
	if b, e := leaf.Lay(l...); b != "" || e != bad {
		t.Errorf("%s: Lay: %q, error %d, not %d", what, b, e, bad)
	}
}

// checkRead holds what Read tells against the items that are wanted.
func checkRead(t *testing.T, what, b string, want ...api.Item) {
	t.Helper()
	got, e := leaf.Read(b)
	if e != api.OK {
		t.Errorf("%s: Read: error %d", what, e)
	}
	checkItems(t, what+": Read", got, want...)
}

// checkNoRead holds Read to tell an error, and no items.
func checkNoRead(t *testing.T, what, b string, bad api.Errno) {
	t.Helper()
	if l, e := leaf.Read(b); len(l) > 0 || e != bad {
		t.Errorf("%s: Read: %v, error %d, not %d", what, l, e, bad)
	}
}

// front tells the text that is at the front of bytes, and what is behind it.
func front(b string) (s, rest string, ok bool) {
	if len(b) < 2 {
		return "", "", false
	}
	n := 2 + int(b[0]) + int(b[1])<<8
	if len(b) < n {
		return "", "", false
	}
	return b[2:n], b[n:], true
}

// judge tells by P901, from the bytes alone, what Read is to tell.
func judge(b string) ([]api.Item, api.Errno) {
	if b == "" {
		return nil, api.ErrShort
	}
	var l []api.Item
	n, rest := int(b[0]), b[1:]
	for range n {
		if rest == "" {
			return nil, api.ErrShort
		}
		kind := int(rest[0])
		key, behind, ok := front(rest[1:])
		value, last, ok2 := front(behind)
		if !ok || !ok2 {
			return nil, api.ErrShort
		}
		l, rest = append(l, api.Item{Key: key, Value: value, Kind: kind}), last
	}
	if rest != "" || len(b) > 232 {
		return nil, api.ErrForm
	}
	for k, i := range l {
		if i.Kind > 2 || i.Key == "" || len(i.Key) > 32 || len(i.Value) > 96 || k > 0 && l[k-1].Key >= i.Key {
			return nil, api.ErrForm
		}
	}
	return l, api.OK
}

// checkJudge holds Read against judge, and tells what that said.
func checkJudge(t *testing.T, what, b string) api.Errno {
	t.Helper()
	want, bad := judge(b)
	if bad != api.OK {
		checkNoRead(t, what, b, bad)
		return bad
	}
	checkRead(t, what, b, want...)
	if lay(t, want...) != b {
		t.Errorf("%s: Lay does not lay it", what)
	}
	return api.OK
}

func TestP901Valid(t *testing.T) {
	for _, i := range valid() {
		if !leaf.Valid(i) {
			t.Errorf("an item may not be: %s", name(i))
		}
	}
	for _, i := range wrong() {
		if leaf.Valid(i) {
			t.Errorf("an item may be: %s", name(i))
		}
	}
}

func TestP901Size(t *testing.T) {
	for _, c := range []struct {
		want int
		l    []api.Item
	}{
		{1, nil},
		{1, []api.Item{}},
		{6, []api.Item{{}}},
		{8, []api.Item{item("a", "1")}},
		{7, []api.Item{{Key: "a", Kind: api.Within}}},
		{15, []api.Item{item("a", "1"), item("b", "2")}},
		{17, []api.Item{item("a", "12"), item("bcd", "")}},
		{134, []api.Item{item(text(32), text(96))}},
		{70006, []api.Item{item(text(30000), text(40000))}},
		{20, []api.Item{item("b", "2"), item("a", "1"), {Kind: -1}}},
		{2701, row(300, 9)},
	} {
		if n := leaf.Size(c.l...); n != c.want {
			t.Errorf("Size of %d items: %d, not %d", len(c.l), n, c.want)
		}
	}
	for _, i := range append(valid(), wrong()...) {
		if n := leaf.Size(i, i); n != len(body(i, i)) {
			t.Errorf("Size of two of %s: %d, not %d", name(i), n, len(body(i, i)))
		}
	}
}

func TestP901Lay(t *testing.T) {
	if b := lay(t); b != "\x00" {
		t.Errorf("no items: %q", b)
	}
	l := []api.Item{{Key: "a", Value: "1", Kind: api.Plain}, {Key: "bc", Kind: api.Within}, {Key: "c", Value: "xyz", Kind: api.Far}}
	want := "\x03" + "\x00\x01\x00a\x01\x001" + "\x02\x02\x00bc\x00\x00" + "\x01\x01\x00c\x03\x00xyz"
	if b := lay(t, l...); b != want {
		t.Errorf("three items: %q, not %q", b, want)
	}
	for _, i := range valid() {
		if b := lay(t, i); b != body(i) || len(b) != leaf.Size(i) {
			t.Errorf("Lay of %s: %q, not %q", name(i), b, body(i))
		}
	}
	for n := range 26 {
		if b := lay(t, row(n, 9)...); b != body(row(n, 9)...) || len(b) != 1+9*n {
			t.Errorf("Lay of %d items: %q", n, b)
		}
	}
}

// least tells n items, each as small as one may be.
func least(n int) []api.Item {
	var l []api.Item
	for i := range n {
		l = append(l, item(string([]byte{byte(i)}), ""))
	}
	return l
}

func TestP901LayOfAsMuchAsFits(t *testing.T) {
	for _, l := range [][]api.Item{
		least(38),
		append(least(37), item("\x80", "123")),
		{item("a", text(92)), item("b", text(96)), item("c", text(20))},
		{item("a"+text(31), text(96)), item("b"+text(30), text(50)), item("c", "")},
	} {
		last := len(l) - 1
		l[last].Value += text(232 - leaf.Size(l...))
		if b := lay(t, l...); len(b) != 232 || b != body(l...) {
			t.Errorf("a full body of %d items: %q", len(l), b)
		}
		l[last].Value += "+"
		if !leaf.Valid(l[last]) {
			t.Fatalf("the last one may not be")
		}
		checkNoLay(t, "a byte too much", api.ErrLong, l...)
	}
	for _, n := range []int{39, 40, 254, 255, 256} {
		checkNoLay(t, strconv.Itoa(n)+" of the least", api.ErrLong, least(n)...)
	}
	for _, n := range []int{26, 255, 256, 257, 281, 512, 5000} {
		checkNoLay(t, strconv.Itoa(n)+" items", api.ErrLong, row(n, 9)...)
	}
}

func TestP901LayOfWhatMayNotBe(t *testing.T) {
	for _, i := range wrong() {
		checkNoLay(t, name(i), api.ErrArg, i)
		checkNoLay(t, name(i)+", the first one", api.ErrArg, i, item("\xff\xff", ""))
		checkNoLay(t, name(i)+", in the middle", api.ErrArg, item("a", ""), i, item("\xff\xff", ""))
		checkNoLay(t, name(i)+", the last one", api.ErrArg, item("a", ""), item("b", ""), i)
		checkNoLay(t, name(i)+", behind more than fits", api.ErrArg, append(row(300, 100), i)...)
	}
}

// keys tells some in the order of their bytes.
func keys() []string {
	return []string{"\x00", "\x00\x00", "\x00\xff", "\x01", "-", "/", "1", "10", "2", "A", "Z", "a", "a\x00", "aa", "ab", "b", "z", "\x7f", "\x80", "ä", "€", "\xff", "\xff\x00", "\xff\xff"}
}

func TestP901KeysRise(t *testing.T) {
	for i, a := range keys() {
		for k, b := range keys() {
			what := strconv.Quote(a) + " ahead of " + strconv.Quote(b)
			l := []api.Item{item(a, "1"), item(b, "2")}
			if i < k {
				checkRead(t, what, lay(t, l...), l...)
				continue
			}
			checkNoLay(t, what, api.ErrArg, l...)
			checkNoRead(t, what, body(l...), api.ErrForm)
			checkNoLay(t, what+", behind more than fits", api.ErrArg, append(row(300, 100), l...)...)
			if _, e := leaf.Cut(l...); e != api.ErrArg {
				t.Errorf("%s: Cut: error %d", what, e)
			}
		}
	}
	l := items("a", "b", "c", "d", "e", "f")
	for i := range l {
		for k := range i {
			swapped := slices.Clone(l)
			swapped[i], swapped[k] = swapped[k], swapped[i]
			checkNoLay(t, "two that changed places", api.ErrArg, swapped...)
			twice := slices.Insert(slices.Clone(l), i, l[k])
			checkNoLay(t, "one that comes twice", api.ErrArg, twice...)
		}
	}
}

func TestP901LayWritesNothing(t *testing.T) {
	l := items("a", "b", "c")
	b := lay(t, l...)
	checkItems(t, "the items", l, items("a", "b", "c")...)
	l[1].Value = "other"
	if b != body(items("a", "b", "c")...) {
		t.Errorf("the body changed: %q", b)
	}
}

func TestP901ReadsWhatLayLays(t *testing.T) {
	checkRead(t, "no items", "\x00")
	for _, i := range valid() {
		checkRead(t, name(i), lay(t, i), i)
		checkRead(t, name(i)+", laid otherwise", body(i), i)
	}
	for n := range 26 {
		checkRead(t, strconv.Itoa(n)+" items", lay(t, row(n, 9)...), row(n, 9)...)
	}
	checkRead(t, "as many as fit", lay(t, least(38)...), least(38)...)
}

func TestP901ReadOfOtherBytes(t *testing.T) {
	a, b := item("a", "1"), item("b", "2")
	checkRead(t, "as it was laid", body(a, b), a, b)
	for what, c := range map[string]struct {
		b   string
		bad api.Errno
	}{
		"nothing":                         {"", api.ErrShort},
		"how many alone":                  {"\x01", api.ErrShort},
		"one that is not there":           {"\x03" + body(a, b)[1:], api.ErrShort},
		"many that are not there":         {"\xff" + body(a, b)[1:], api.ErrShort},
		"a key longer than there is":      {"\x01\x00\xff\xffa\x00\x00", api.ErrShort},
		"a value longer than there is":    {"\x01\x00\x01\x00a\x02\x00x", api.ErrShort},
		"one more than it says":           {"\x01" + body(a, b)[1:], api.ErrForm},
		"none, and a byte":                {"\x00\x00", api.ErrForm},
		"a byte behind it":                {body(a, b) + "\x00", api.ErrForm},
		"zero bytes up to the end":        {body(a, b) + strings.Repeat("\x00", 232-len(body(a, b))), api.ErrForm},
		"no key":                          {body(item("", "1")), api.ErrForm},
		"no key, and no value":            {body(api.Item{}), api.ErrForm},
		"a key too long":                  {body(item(text(33), "1")), api.ErrForm},
		"a value too long":                {body(item("a", text(97))), api.ErrForm},
		"kind 3":                          {body(api.Item{Key: "a", Kind: 3}), api.ErrForm},
		"kind 255":                        {body(a, api.Item{Key: "b", Kind: 255}), api.ErrForm},
		"the same key twice":              {body(a, a), api.ErrForm},
		"keys that fall":                  {body(b, a), api.ErrForm},
		"keys that fall at the end":       {body(a, item("c", ""), b), api.ErrForm},
		"a byte more than a body":         {body(least(38)...) + "\x00", api.ErrForm},
		"one more than fits":              {body(least(39)...), api.ErrForm},
		"255 items":                       {body(row(255, 9)...), api.ErrForm},
		"a wrong kind, and too few bytes": {"\x02" + body(api.Item{Key: "a", Kind: 9})[1:], api.ErrShort},
		"keys that fall, and too few":     {"\x03" + body(b, a)[1:], api.ErrShort},
		"no key, and bytes behind it":     {body(api.Item{}) + "\x00", api.ErrForm},
		"a key too long, and no value":    {"\x01\x00\x21\x00" + text(33), api.ErrShort},
	} {
		checkNoRead(t, what, c.b, c.bad)
		checkJudge(t, what, c.b)
	}
}

// Each byte of a body is changed to each other one; each body is cut, and made longer.
func TestP901ReadOfEachChangedByte(t *testing.T) {
	told := map[api.Errno]int{}
	for _, l := range [][]api.Item{
		{{Key: "a", Value: "12", Kind: api.Far}, {Key: "b", Kind: api.Within}, {Key: "ba", Value: "x"}},
		{{Key: text(32), Value: text(96), Kind: api.Within}},
		row(25, 9),
		{},
	} {
		b := []byte(body(l...))
		for i := range b {
			was := b[i]
			for c := range 256 {
				b[i] = byte(c)
				told[checkJudge(t, "byte "+strconv.Itoa(i)+" is "+strconv.Itoa(c), string(b))]++
			}
			b[i] = was
			checkNoRead(t, strconv.Itoa(i)+" bytes", string(b[:i]), api.ErrShort)
		}
		for n := 1; n < 8; n++ {
			checkNoRead(t, "longer", string(b)+strings.Repeat("\x00", n), api.ErrForm)
		}
	}
	for _, e := range []api.Errno{api.OK, api.ErrShort, api.ErrForm} {
		if told[e] < 1000 {
			t.Errorf("error %d came but %d times", e, told[e])
		}
	}
}

// What is read is new each time, and no piece of what was handed in.
func TestP901ReadTellsNewItems(t *testing.T) {
	l := []api.Item{item("a", "12"), item("b", text(90))}
	b := lay(t, l...)
	got, _ := leaf.Read(b)
	from := uintptr(unsafe.Pointer(unsafe.StringData(b)))
	for _, i := range got {
		for _, s := range []string{i.Key, i.Value} {
			if at := uintptr(unsafe.Pointer(unsafe.StringData(s))); at >= from && at < from+uintptr(len(b)) {
				t.Errorf("%q is a piece of the body that was handed in", s)
			}
		}
	}
	clear(got[:cap(got)])
	checkRead(t, "read once more", b, l...)
}
