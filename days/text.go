package days

import (
	"strconv"
	"strings"

	"arbac/api"
)

// The texts of the sets that are not written as spans.
const (
	noneText = "none"
	allText  = "all"
)

// Text returns the set as text.
func (s Set) Text() string {
	switch {
	case s.Empty():
		return noneText
	case s.Equal(All()):
		return allText
	}
	var p []byte
	for i, q := range s.Spans() {
		if i > 0 {
			p = append(p, ',')
		}
		p = q.appendTo(p)
	}
	return string(p)
}

// Parse returns the set with a text.
func Parse(s string) (Set, api.Errno) {
	switch s {
	case noneText:
		return Set{}, api.OK
	case allText:
		return All(), api.OK
	}
	var l []Span
	for f := range strings.SplitSeq(s, ",") {
		p, ok := parseSpan(f)
		if !ok || len(l) > api.MaxDay {
			return Set{}, api.ErrForm
		}
		l = append(l, p)
	}
	r, e := Of(l...)
	// Up to here any span and any order pass, and leading zeros and signs too.
	if e != api.OK || r.Text() != s {
		return Set{}, api.ErrForm
	}
	return r, api.OK
}

// appendTo appends the text of a span to p.
func (q Span) appendTo(p []byte) []byte {
	p = strconv.AppendInt(p, int64(q.From), 10)
	if q.From == q.To {
		return p
	}
	p = append(p, '-')
	if q.To == api.MaxDay {
		return p
	}
	return strconv.AppendInt(p, int64(q.To), 10)
}

// parseSpan returns the span that a text stands for.
func parseSpan(f string) (Span, bool) {
	from, to, open := strings.Cut(f, "-")
	first, err := strconv.Atoi(from)
	if err != nil {
		return Span{}, false
	}
	if !open {
		return Span{first, first}, true
	}
	if to == "" {
		return Span{first, api.MaxDay}, true
	}
	last, err := strconv.Atoi(to)
	return Span{first, last}, err == nil
}
