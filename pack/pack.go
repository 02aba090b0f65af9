// Package pack lays numbers and texts into bytes.
package pack

import (
	"slices"
	"strconv"
	"strings"

	"rootstock/api"
)

const (
	longest = 1<<16 - 1 // bytes of a Text: its length stands in a Half
	places  = 18        // digits of a Number: so many fit into an int, whatever they are
)

// Put puts things one behind the other.
type Put struct {
	laid  []byte
	owner *Put
	bad   api.Errno
}

// Byte puts a number in a byte.
func (p *Put) Byte(v int) *Put { return p.narrow(v, 1) }

// Half puts a number in two bytes.
func (p *Put) Half(v int) *Put { return p.narrow(v, 2) }

// Word puts a number in four bytes.
func (p *Put) Word(v int) *Put { return p.narrow(v, 4) }

// Int puts an int.
func (p *Put) Int(v int) *Put { return p.number(uint64(v), 8) }

// Text puts a text and its length.
func (p *Put) Text(s string) *Put {
	if len(s) > longest {
		return p.fail(api.ErrLong)
	}
	return p.Half(len(s)).Raw(s)
}

// Raw puts bytes.
func (p *Put) Raw(s string) *Put {
	if p.ready() {
		p.laid = append(p.laid, s...)
	}
	return p
}

// Len tells how many bytes there are.
func (p *Put) Len() int {
	if p == nil {
		return 0
	}
	return len(p.laid)
}

// End tells the bytes.
func (p *Put) End() (string, api.Errno) {
	if p == nil {
		return "", api.ErrArg
	}
	if p.bad != api.OK {
		return "", p.bad
	}
	return string(p.laid), api.OK
}

// narrow puts a number that has to fit into fewer bytes than an int has.
func (p *Put) narrow(v, size int) *Put {
	if v < 0 || v>>(8*size) != 0 {
		return p.fail(api.ErrArg)
	}
	return p.number(uint64(v), size)
}

// number puts the lowest bytes of v, the lowest first.
func (p *Put) number(v uint64, size int) *Put {
	if p.ready() {
		for range size {
			p.laid = append(p.laid, byte(v))
			v >>= 8
		}
	}
	return p
}

// ready tells whether more may be put. A Put that was copied from another one
// begins with bytes that both see: it takes its own ahead of what it adds, so
// that neither writes over what the other one laid.
func (p *Put) ready() bool {
	if p == nil || p.bad != api.OK {
		return false
	}
	if p.owner != p {
		p.laid, p.owner = slices.Clone(p.laid), p
	}
	return true
}

// fail keeps an error, if it is the first one.
func (p *Put) fail(e api.Errno) *Put {
	if p != nil && p.bad == api.OK {
		p.bad = e
	}
	return p
}

// Get reads things.
type Get struct {
	rest string
	bad  api.Errno
}

// From makes a reader.
func From(b string) *Get { return &Get{rest: b} }

// Byte reads a byte.
func (g *Get) Byte() int { return g.number(1) }

// Half reads a number of two bytes.
func (g *Get) Half() int { return g.number(2) }

// Word reads a number of four bytes.
func (g *Get) Word() int { return g.number(4) }

// Int reads an int.
func (g *Get) Int() int { return g.number(8) }

// Text reads a text.
func (g *Get) Text() string { return g.Raw(g.Half()) }

// Raw reads bytes.
func (g *Get) Raw(n int) string {
	switch {
	case g.Bad() != api.OK:
		return ""
	case n < 0:
		g.fail(api.ErrArg)
		return ""
	case n > len(g.rest):
		g.fail(api.ErrShort)
		return ""
	}
	s := g.rest[:n]
	g.rest = g.rest[n:]
	return s
}

// Left tells how many bytes are left.
func (g *Get) Left() int {
	if g == nil {
		return 0
	}
	return len(g.rest)
}

// Bad tells the first error.
func (g *Get) Bad() api.Errno {
	if g == nil {
		return api.ErrArg
	}
	return g.bad
}

// End tells whether all was read.
func (g *Get) End() api.Errno {
	if g.Left() > 0 {
		g.fail(api.ErrForm)
	}
	return g.Bad()
}

// number reads so many bytes, the lowest first.
func (g *Get) number(size int) int {
	s := g.Raw(size)
	var v uint64
	for i := range len(s) {
		v |= uint64(s[i]) << (8 * i)
	}
	return int(v)
}

// fail keeps the first error. Nothing is left with one, so that nothing more
// can be read, and no second one can come.
func (g *Get) fail(e api.Errno) {
	g.rest, g.bad = "", e
}

// Digits tells an int in digits.
func Digits(v int) string { return strconv.Itoa(v) }

// Number tells the int of digits.
func Number(s string) (int, api.Errno) {
	digits, below := strings.CutPrefix(s, "-")
	if !plain(digits) || below && digits == "0" {
		return 0, api.ErrArg
	}
	v := 0
	for i := range len(digits) {
		v = v*10 + int(digits[i]-'0')
	}
	if below {
		v = -v
	}
	return v, api.OK
}

// plain tells whether a text is the digits that Digits would write, and no
// more of them than fit.
func plain(s string) bool {
	if len(s) < 1 || len(s) > places || len(s) > 1 && s[0] == '0' {
		return false
	}
	for i := range len(s) {
		if s[i] < '0' || s[i] > '9' {
			return false
		}
	}
	return true
}
