package change_test

import (
	"bytes"
	"encoding/binary"
	"math"
	"math/rand"
	"slices"
	"strings"
	"testing"

	"arbac/api"
	"arbac/change"
)

// examples has a change of each kind with its bytes, by hand, and its text.
var examples = []struct {
	change C
	bytes  string
	text   string
}{
	{addUser("ann"), "\x01\x03ann", "add user ann"},
	{addRole("r_1"), "\x02\x03r_1", "add role r_1"},
	{addAdmin("hr"), "\x03\x02hr", "add admin hr"},
	{link(3, 300), "\x04\x03\x82\x2c", "link 3 over 300"},
	{unlink(127, 128), "\x05\x7f\x81\x00", "unlink 127 from 128"},
	{grants(1, may("read", "/a", true)), "\x06\x01\x04read\x02/a\x01", "grant 1 read /a/*"},
	{grants(2, may("run", "/", true)), "\x06\x02\x03run\x01/\x01", "grant 2 run /*"},
	{withdraw(0, read("/a/b")), "\x07\x00\x04read\x04/a/b\x00", "withdraw 0 read /a/b"},
	{appoint(256, 63, 30000), "\x08\x82\x00\x3f\x81\xea\x30", "appoint 256 to 63 until 30000"},
	{dismiss(2, 5), "\x09\x02\x05", "dismiss 2 from 5"},
	{setRules("revoke a by b;\n"), "\x0a\x0frevoke a by b;\n", "set rules, 15 bytes"},
	{setRules(""), "\x0a\x00", "set rules, 0 bytes"},
	{setConstraints("\xff\x00"), "\x0b\x02\xff\x00", "set constraints, 2 bytes"},
	{setConstraints(strings.Repeat("ä", 4000)), "\x0b\xbe\x40" + strings.Repeat("ä", 4000), "set constraints, 8000 bytes"},
	{assign(1, 2, 3, 4), "\x0c\x01\x02\x03\x04", "assign 3 to 2 by 1 until 4"},
	{assign(1000000, 999999, 0, 16384), "\x0c\xbd\x84\x40\xbd\x84\x3f\x00\x81\x80\x00", "assign 0 to 999999 by 1000000 until 16384"},
	{revoke(1, 2, 3), "\x0d\x01\x02\x03", "revoke 3 from 2 by 1"},
	{open(7), "\x0e\x07", "open for 7"},
	{closes(64), "\x0f\x40", "close 64"},
	{activate(2, 9), "\x10\x09\x02", "activate 9 in 2"},
	{deactivate(5, 6), "\x11\x06\x05", "deactivate 6 in 5"},
	{day(300), "\x12\x82\x2c", "day 300"},
	{day(0), "\x12\x00", "day 0"},
	// What is no name or permission has bytes and a text, too.
	{addUser(""), "\x01\x00", "add user "},
	{addRole("by \xff\n"), "\x02\x05by \xff\n", "add role by \xff\n"},
	{grants(1, P{}), "\x06\x01\x00\x00\x00", "grant 1 "},
	{withdraw(1, may("by", "/", true)), "\x07\x01\x02by\x01/\x01", "withdraw 1 "},
}

// P25.5, P25.6: in the order of the type, whatever order the table of the chapter has.
func TestExampleBytes(t *testing.T) {
	for _, x := range examples {
		if got := x.change.Bytes(); string(got) != x.bytes {
			t.Errorf("Bytes of %.100v: %x, not %x", x.change, got, x.bytes)
		}
		if got, e := change.Read([]byte(x.bytes)); got != x.change || e != api.OK {
			t.Errorf("Read(%.100x): %.100v, error %d", x.bytes, got, e)
		}
	}
}

// encoded returns the bytes of a change with a kind, as the chapter describes them, whatever Check says.
func encoded(c C) []byte {
	out := []byte{byte(c.Kind)}
	number := func(n int) {
		var groups []byte
		for v := uint64(n); len(groups) == 0 || v > 0; v >>= 7 {
			groups = append(groups, byte(v&127)|128)
		}
		slices.Reverse(groups)
		groups[len(groups)-1] &= 127
		out = append(out, groups...)
	}
	text := func(s string) {
		number(len(s))
		out = append(out, s...)
	}
	for _, field := range []string{"By", "User", "Role", "Other", "Session", "Day", "Name", "Text", "Permission"} {
		if !uses(c.Kind, field) {
			continue
		}
		switch field {
		case "Name":
			text(c.Name)
		case "Text":
			text(c.Text)
		case "Permission":
			text(c.Permission.Action)
			text(c.Permission.Path)
			out = append(out, 0)
			if c.Permission.Deep {
				out[len(out)-1] = 1
			}
		default:
			number(map[string]int{"By": c.By, "User": c.User, "Role": c.Role, "Other": c.Other, "Session": c.Session, "Day": c.Day}[field])
		}
	}
	return out
}

// valid returns a change that Check accepts.
func valid(r *rand.Rand) C {
	c := C{Kind: change.Kind(1 + r.Intn(18))}
	for _, field := range numbers {
		if uses(c.Kind, field) {
			c = set(c, field, pick(r, 0, 1, 63, 127, 128, 16383, 16384, 999999, 1000000, r.Intn(1000001)))
		}
	}
	text := func(most int) string {
		p := make([]byte, pick(r, 0, 1, most, r.Intn(most+1)))
		r.Read(p)
		return string(p)
	}
	if uses(c.Kind, "Name") {
		c.Name = text(12)
	}
	if uses(c.Kind, "Text") {
		c.Text = text(8000)
	}
	if uses(c.Kind, "Permission") {
		c.Permission = may(text(12), text(104), r.Intn(2) == 0)
	}
	return c
}

// P25.5
func TestBytes(t *testing.T) {
	r := rand.New(rand.NewSource(255))
	for range 5000 {
		c := valid(r)
		p := c.Bytes()
		if change.Check(c) != api.OK || !bytes.Equal(p, encoded(c)) {
			t.Fatalf("Bytes of %.200v: %.100x", c, p)
		}
		got, e := change.Read(p)
		if got != c || e != api.OK {
			t.Fatalf("Read(%.100x): %.200v, error %d", p, got, e)
		}
		clear(p)
		if !bytes.Equal(c.Bytes(), encoded(c)) || got != c {
			t.Fatalf("a caller has changed %.200v", c)
		}
	}
}

// P25.5: nothing for a change that Check refuses.
func TestNoBytes(t *testing.T) {
	r := rand.New(rand.NewSource(256))
	for k := range 256 {
		if c := (C{Kind: change.Kind(k)}); (len(c.Bytes()) == 0) == (k >= 1 && k <= 18) {
			t.Errorf("Bytes of kind %d: %x", k, c.Bytes())
		}
	}
	for range 5000 {
		c := set(valid(r), pick(r, append([]string{"Name", "Text", "Action", "Path"}, numbers...)...), pick(r, -1, 1000001, math.MinInt, math.MaxInt))
		if change.Check(c) != api.OK && len(c.Bytes()) != 0 {
			t.Errorf("Bytes of %.200v: %.100x", c, c.Bytes())
		}
	}
}

// misread checks that bytes are those of no change.
func misread(t *testing.T, p []byte) {
	t.Helper()
	before := bytes.Clone(p)
	if c, e := change.Read(p); c != (C{}) || e != api.ErrForm {
		t.Errorf("Read(%.100x): %.200v, error %d", p, c, e)
	}
	if !bytes.Equal(p, before) {
		t.Errorf("Read(%.100x) has changed its argument", before)
	}
}

// P25.5: bytes of no change.
func TestReadErrors(t *testing.T) {
	for _, x := range examples {
		p := []byte(x.bytes)
		for n := range min(len(p), 100) {
			misread(t, p[:n])
		}
		misread(t, p[:len(p)-1])
		misread(t, append(slices.Clone(p), 0))
		misread(t, append([]byte{0}, p...))
		misread(t, append([]byte{128}, p...))
		for _, k := range []byte{0, 19, 128, 255} {
			misread(t, append([]byte{k}, p[1:]...))
		}
	}
	for _, c := range []C{
		link(1000001, 1), link(1, 1000001), day(1000001), day(math.MaxInt), assign(1, 2, 3, 1000001), assign(1000001, 2, 3, 4), open(-1),
		addUser(strings.Repeat("a", 13)), addRole(strings.Repeat("a", 8000)), setRules(strings.Repeat(" ", 8001)), setConstraints(strings.Repeat(";", 20000)),
		grants(1, may(strings.Repeat("a", 13), "/", false)), grants(1, may("a", strings.Repeat("/", 105), false)), withdraw(1, may("a", strings.Repeat("/", 8000), true)),
	} {
		misread(t, encoded(c))
	}
	misread(t, nil)
	misread(t, []byte("\x06\x01\x04read\x02/a\x02"))
	misread(t, []byte("\x12\x80\x05"))
	misread(t, []byte("\x80\x12\x05"))
	misread(t, []byte("\x81\x12\x05"))
	misread(t, append([]byte{1}, binary.AppendUvarint(nil, math.MaxUint64)...))
	misread(t, bytes.Repeat([]byte{255}, 40))
}

// P25.5: whatever is read has exactly these bytes.
func TestReadIsCanonical(t *testing.T) {
	r := rand.New(rand.NewSource(257))
	reads := 0
	for range 200000 {
		p := []byte(pick(r, examples...).bytes)
		p = p[:min(len(p), 30)]
		for range 1 + r.Intn(3) {
			p[r.Intn(len(p))] = pick(r, 0, 1, 2, 3, 4, 127, 128, 129, 'a', '/', byte(1+r.Intn(18)), byte(r.Intn(256)))
		}
		p = p[:len(p)-r.Intn(2)*r.Intn(2)]
		c, e := change.Read(p)
		if e == api.OK {
			reads++
		}
		if e == api.OK && (change.Check(c) != api.OK || !bytes.Equal(c.Bytes(), p)) || e != api.OK && (c != C{} || e != api.ErrForm) {
			t.Fatalf("Read(%x): %v, error %d", p, c, e)
		}
	}
	if reads < 10000 {
		t.Errorf("only %d changes were read", reads)
	}
}
