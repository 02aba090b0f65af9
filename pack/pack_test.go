package pack_test

import (
	"math"
	"strings"
	"sync"
	"testing"

	"rootstock/api"
	"rootstock/pack"
)

// checkPut holds what a Put ends in against the bytes or the error that are wanted.
func checkPut(t *testing.T, what string, p *pack.Put, want string, bad api.Errno) {
	t.Helper()
	got, e := p.End()
	if got != want || e != bad {
		t.Errorf("%s: %q, %d, not %q, %d", what, got, e, want, bad)
	}
}

// checkInt holds one number against another.
func checkInt(t *testing.T, what string, got, want int) {
	t.Helper()
	if got != want {
		t.Errorf("%s: %d, not %d", what, got, want)
	}
}

// checkText holds one text against another.
func checkText(t *testing.T, what, got, want string) {
	t.Helper()
	if got != want {
		t.Errorf("%s: %q, not %q", what, got, want)
	}
}

// checkErr holds one error against another.
func checkErr(t *testing.T, what string, got, want api.Errno) {
	t.Helper()
	if got != want {
		t.Errorf("%s: error %d, not %d", what, got, want)
	}
}

func put() *pack.Put { return &pack.Put{} }

func TestP101Numbers(t *testing.T) {
	checkPut(t, "nothing", put(), "", api.OK)
	checkPut(t, "example", put().Half(258).Text("a"), "\x02\x01\x01\x00a", api.OK)
	checkPut(t, "Byte", put().Byte(0).Byte(1).Byte(255), "\x00\x01\xff", api.OK)
	checkPut(t, "Half", put().Half(0).Half(0x0102).Half(65535), "\x00\x00\x02\x01\xff\xff", api.OK)
	checkPut(t, "Word", put().Word(0x01020304).Word(math.MaxUint32), "\x04\x03\x02\x01\xff\xff\xff\xff", api.OK)
	checkPut(t, "Int", put().Int(0x0102030405060708), "\x08\x07\x06\x05\x04\x03\x02\x01", api.OK)
	checkPut(t, "Int -1", put().Int(-1), "\xff\xff\xff\xff\xff\xff\xff\xff", api.OK)
	checkPut(t, "Int -2", put().Int(-2), "\xfe\xff\xff\xff\xff\xff\xff\xff", api.OK)
	checkPut(t, "Int least", put().Int(math.MinInt), "\x00\x00\x00\x00\x00\x00\x00\x80", api.OK)
	checkPut(t, "Int greatest", put().Int(math.MaxInt), "\xff\xff\xff\xff\xff\xff\xff\x7f", api.OK)
}

func TestP101NumbersThatDoNotFit(t *testing.T) {
	for _, v := range []int{-1, math.MinInt, 1 << 8, math.MaxInt} {
		checkPut(t, "Byte of "+pack.Digits(v), put().Byte(v), "", api.ErrArg)
	}
	for _, v := range []int{-1, math.MinInt, 1 << 16, math.MaxInt} {
		checkPut(t, "Half of "+pack.Digits(v), put().Half(v), "", api.ErrArg)
	}
	for _, v := range []int{-1, math.MinInt, 1 << 32, math.MaxInt} {
		checkPut(t, "Word of "+pack.Digits(v), put().Word(v), "", api.ErrArg)
	}
}

func TestP101Texts(t *testing.T) {
	checkPut(t, "Text of nothing", put().Text(""), "\x00\x00", api.OK)
	checkPut(t, "Text of any bytes", put().Text("\x00\xff/"), "\x03\x00\x00\xff/", api.OK)
	long := strings.Repeat("a", 65535)
	checkPut(t, "longest Text", put().Text(long), "\xff\xff"+long, api.OK)
	checkPut(t, "longer Text", put().Text(long+"a"), "", api.ErrLong)
	checkPut(t, "Raw", put().Raw("").Raw("x\x00y"), "x\x00y", api.OK)
	checkPut(t, "long Raw", put().Raw(long+"a"), long+"a", api.OK)
}

func TestP101FirstErrorStays(t *testing.T) {
	long := strings.Repeat("a", 65536)
	checkPut(t, "ErrArg, then ErrLong", put().Byte(-1).Text(long), "", api.ErrArg)
	checkPut(t, "ErrLong, then ErrArg", put().Text(long).Byte(-1), "", api.ErrLong)
	p := put().Raw("ab").Half(-1)
	puts := map[string]func(){
		"Byte": func() { p.Byte(1) },
		"Half": func() { p.Half(1) },
		"Word": func() { p.Word(1) },
		"Int":  func() { p.Int(1) },
		"Text": func() { p.Text("c") },
		"Raw":  func() { p.Raw("d") },
	}
	for name, f := range puts {
		f()
		checkInt(t, "Len behind an error and "+name, p.Len(), 2)
		checkPut(t, "End behind an error and "+name, p, "", api.ErrArg)
	}
}

func TestP101AnswersThePut(t *testing.T) {
	p := put()
	for i, q := range []*pack.Put{p.Byte(1), p.Half(1), p.Word(1), p.Int(1), p.Text("a"), p.Raw("b"), p.Byte(-1), p.Byte(1)} {
		if q != p {
			t.Errorf("call %d answers another Put", i)
		}
	}
}

func TestP101LenAndEndOnTheWay(t *testing.T) {
	var p pack.Put
	checkInt(t, "Len of none", p.Len(), 0)
	p.Byte(1).Half(1).Word(1).Int(1).Text("abc").Raw("de")
	checkInt(t, "Len", p.Len(), 1+2+4+8+2+3+2)
	first, _ := p.End()
	again, _ := p.End()
	checkText(t, "End once more", again, first)
	p.Raw("f")
	checkPut(t, "End behind more", &p, first+"f", api.OK)
}

// A Put is a value that may be copied: neither of the two writes over the other one's bytes.
func TestP101CopiesAreApart(t *testing.T) {
	for n := range 40 {
		start := strings.Repeat("s", n)
		a := put().Raw(start)
		b := *a
		a.Raw("a")
		b.Raw("b")
		a.Byte('!')
		c := b
		c.Byte(-1)
		checkPut(t, "the one", a, start+"a!", api.OK)
		checkPut(t, "the other", &b, start+"b", api.OK)
		checkPut(t, "a copy with an error", &c, "", api.ErrArg)
	}
}

func TestP101SeveralPutsAtOneTime(t *testing.T) {
	var wait sync.WaitGroup
	ends := make([]string, 8)
	for i := range ends {
		wait.Go(func() { ends[i], _ = put().Byte(i).Text("x").End() })
	}
	wait.Wait()
	for i, s := range ends {
		checkText(t, "Put "+pack.Digits(i), s, string(rune(i))+"\x01\x00x")
	}
}

func TestP102ReadsWhatPutLays(t *testing.T) {
	long := strings.Repeat("b", 65535)
	b, _ := put().Byte(0).Byte(255).Half(258).Half(65535).Word(0x01020304).Word(math.MaxUint32).Int(-2).Int(math.MinInt).Int(math.MaxInt).Text("").Text(long).Raw("xyz").End()
	g := pack.From(b)
	checkInt(t, "Byte 0", g.Byte(), 0)
	checkInt(t, "Byte 255", g.Byte(), 255)
	checkInt(t, "Half", g.Half(), 258)
	checkInt(t, "greatest Half", g.Half(), 65535)
	checkInt(t, "Word", g.Word(), 0x01020304)
	checkInt(t, "greatest Word", g.Word(), math.MaxUint32)
	checkInt(t, "Int below 0", g.Int(), -2)
	checkInt(t, "least Int", g.Int(), math.MinInt)
	checkInt(t, "greatest Int", g.Int(), math.MaxInt)
	checkText(t, "Text of nothing", g.Text(), "")
	checkText(t, "longest Text", g.Text(), long)
	checkInt(t, "Left", g.Left(), 3)
	checkText(t, "Raw of nothing", g.Raw(0), "")
	checkText(t, "Raw", g.Raw(2), "xy")
	checkInt(t, "Left", g.Left(), 1)
	checkText(t, "last Raw", g.Raw(1), "z")
	checkInt(t, "Left at the end", g.Left(), 0)
	checkErr(t, "Bad", g.Bad(), api.OK)
	checkErr(t, "End", g.End(), api.OK)
}

func TestP102OfNothing(t *testing.T) {
	for what, g := range map[string]*pack.Get{"From of nothing": pack.From(""), "a zero Get": {}} {
		checkInt(t, what+": Left", g.Left(), 0)
		checkText(t, what+": Raw", g.Raw(0), "")
		checkErr(t, what+": Bad", g.Bad(), api.OK)
		checkErr(t, what+": End", g.End(), api.OK)
		checkInt(t, what+": Byte", g.Byte(), 0)
		checkErr(t, what+": End behind Byte", g.End(), api.ErrShort)
	}
}

// checkBad holds a Get whose reading f made wrong to what P102 says of one: the error stays, and nothing is read any more.
func checkBad(t *testing.T, what, b string, f func(g *pack.Get), bad api.Errno) {
	t.Helper()
	g := pack.From(b)
	f(g)
	for range 2 {
		checkErr(t, what+": Bad", g.Bad(), bad)
		checkInt(t, what+": Left", g.Left(), 0)
		checkInt(t, what+": Byte", g.Byte(), 0)
		checkInt(t, what+": Half", g.Half(), 0)
		checkInt(t, what+": Word", g.Word(), 0)
		checkInt(t, what+": Int", g.Int(), 0)
		checkText(t, what+": Text", g.Text(), "")
		checkText(t, what+": Raw", g.Raw(0), "")
		checkText(t, what+": Raw below 0", g.Raw(-1), "")
		checkText(t, what+": Raw of more", g.Raw(99), "")
		checkErr(t, what+": End", g.End(), bad)
	}
}

func TestP102TooFewBytes(t *testing.T) {
	checkBad(t, "Byte", "", func(g *pack.Get) { checkInt(t, "Byte", g.Byte(), 0) }, api.ErrShort)
	checkBad(t, "Half", "a", func(g *pack.Get) { checkInt(t, "Half", g.Half(), 0) }, api.ErrShort)
	checkBad(t, "Word", "abc", func(g *pack.Get) { checkInt(t, "Word", g.Word(), 0) }, api.ErrShort)
	checkBad(t, "Int", "abcdefg", func(g *pack.Get) { checkInt(t, "Int", g.Int(), 0) }, api.ErrShort)
	checkBad(t, "Text without its length", "\x01", func(g *pack.Get) { checkText(t, "Text", g.Text(), "") }, api.ErrShort)
	checkBad(t, "Text shorter than it says", "\x03\x00ab", func(g *pack.Get) { checkText(t, "Text", g.Text(), "") }, api.ErrShort)
	checkBad(t, "Raw", "abc", func(g *pack.Get) { checkText(t, "Raw", g.Raw(4), "") }, api.ErrShort)
	checkBad(t, "Raw of very many", "abc", func(g *pack.Get) { checkText(t, "Raw", g.Raw(math.MaxInt), "") }, api.ErrShort)
	checkBad(t, "behind something", "abc", func(g *pack.Get) { g.Half(); g.Half() }, api.ErrShort)
}

func TestP102WrongReads(t *testing.T) {
	checkBad(t, "Raw below 0", "abc", func(g *pack.Get) { checkText(t, "Raw", g.Raw(-1), "") }, api.ErrArg)
	checkBad(t, "Raw far below 0", "abc", func(g *pack.Get) { g.Raw(math.MinInt) }, api.ErrArg)
	checkBad(t, "Raw below 0 of nothing", "", func(g *pack.Get) { g.Raw(-1) }, api.ErrArg)
	checkBad(t, "bytes are left", "abc", func(g *pack.Get) { g.Byte(); g.End() }, api.ErrForm)
}

func TestP102FirstErrorStays(t *testing.T) {
	checkBad(t, "ErrArg, then ErrShort", "a", func(g *pack.Get) { g.Raw(-1); g.Int() }, api.ErrArg)
	checkBad(t, "ErrShort, then ErrArg", "a", func(g *pack.Get) { g.Int(); g.Raw(-1) }, api.ErrShort)
	checkBad(t, "ErrShort, bytes not read", "ab", func(g *pack.Get) { g.Word(); g.End() }, api.ErrShort)
	checkBad(t, "ErrForm, then ErrArg", "ab", func(g *pack.Get) { g.End(); g.Raw(-1) }, api.ErrForm)
}

func TestP103Digits(t *testing.T) {
	for v, want := range map[int]string{
		0: "0", 7: "7", -7: "-7", 10: "10", -100: "-100",
		math.MaxInt: "9223372036854775807", math.MinInt: "-9223372036854775808",
	} {
		checkText(t, "Digits", pack.Digits(v), want)
	}
}

func TestP103Number(t *testing.T) {
	for s, want := range map[string]int{
		"0": 0, "7": 7, "-7": -7, "10": 10, "-120": -120, "1234567890": 1234567890,
		"999999999999999999": 999999999999999999, "-999999999999999999": -999999999999999999,
	} {
		v, e := pack.Number(s)
		checkInt(t, "Number of "+s, v, want)
		checkErr(t, "Number of "+s, e, api.OK)
		checkText(t, "Digits of it", pack.Digits(v), s)
	}
}

func TestP103NoNumbers(t *testing.T) {
	wrong := []string{
		"", "-", "-0", "00", "01", "-01", "-00", "+1", "--1", "1-", "1-1", " 1", "1 ", "1x", "x", "0x1", "1.0", "1e3", "1_0",
		"1000000000000000000", "-1000000000000000000", "000000000000000000", "9223372036854775807", "-9223372036854775808",
		"1\x00", "/", ":", "1\n", "\u0661", strings.Repeat("1", 1000),
	}
	for _, s := range wrong {
		v, e := pack.Number(s)
		checkInt(t, "Number of "+s, v, 0)
		checkErr(t, "Number of "+s, e, api.ErrArg)
	}
}

func TestP104NilPut(t *testing.T) {
	var none *pack.Put
	long := strings.Repeat("a", 65536)
	for i, p := range []*pack.Put{none.Byte(1), none.Byte(-1), none.Half(1), none.Word(1), none.Int(1), none.Text("a"), none.Text(long), none.Raw("a")} {
		if p != nil {
			t.Errorf("call %d of a nil Put answers one", i)
		}
	}
	checkInt(t, "Len", none.Len(), 0)
	checkPut(t, "End", none, "", api.ErrArg)
}

func TestP104NilGet(t *testing.T) {
	var none *pack.Get
	checkErr(t, "Bad", none.Bad(), api.ErrArg)
	checkErr(t, "End", none.End(), api.ErrArg)
	checkInt(t, "Left", none.Left(), 0)
	checkInt(t, "Byte", none.Byte(), 0)
	checkInt(t, "Half", none.Half(), 0)
	checkInt(t, "Word", none.Word(), 0)
	checkInt(t, "Int", none.Int(), 0)
	checkText(t, "Text", none.Text(), "")
	for _, n := range []int{-1, 0, 1} {
		checkText(t, "Raw", none.Raw(n), "")
	}
}
