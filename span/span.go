// Package span is layer 1: places in texts, as bytes, lines and columns.
package span

import (
	"math"
	"slices"
	"whetstone/api"
)

// Span is bytes of a text, from one place up to another one.
type Span struct {
	From int
	To   int
}

// Sound says whether a span lies in a text of so many bytes.
func (s Span) Sound(n int) bool {
	return 0 <= s.From && s.From <= s.To && s.To <= n
}

// Long is how many bytes it has.
func (s Span) Long() int {
	if s.From > s.To {
		return 0
	}
	// From the least numbers to the greatest ones there are more than an int can tell.
	if s.From < 0 && s.To > math.MaxInt+s.From {
		return math.MaxInt
	}
	return s.To - s.From
}

// Has says whether a place lies in it.
func (s Span) Has(at int) bool {
	return s.From <= at && at < s.To
}

// Holds says whether another one lies in it.
func (s Span) Holds(t Span) bool {
	return s.From <= t.From && t.From <= t.To && t.To <= s.To
}

// Meets says whether two have a byte in common.
func (s Span) Meets(t Span) bool {
	return max(s.From, t.From) < min(s.To, t.To)
}

// Cover is the least span that holds some.
func Cover(l ...Span) Span {
	if len(l) == 0 {
		return Span{}
	}
	all := l[0]
	for _, s := range l[1:] {
		all.From = min(all.From, s.From)
		all.To = max(all.To, s.To)
	}
	return all
}

// Text is a text with its lines.
type Text struct {
	text  string
	feeds []int // where its line feeds stand: one fewer than lines, so that a zero one is an empty text
}

// Of is a text.
func Of(s string) Text {
	var feeds []int
	for at := range len(s) {
		if s[at] == '\n' {
			feeds = append(feeds, at)
		}
	}
	return Text{text: s, feeds: feeds}
}

// Len is how many bytes it has.
func (t Text) Len() int { return len(t.text) }

// Lines is how many lines it has.
func (t Text) Lines() int { return len(t.feeds) + 1 }

// Place is a place's line and column, both from nothing on.
func (t Text) Place(at int) (line, column int, e api.Errno) {
	if at < 0 || at > len(t.text) {
		return 0, 0, api.ErrRange
	}
	line = t.lineOf(at)
	return line, at - t.begin(line), api.OK
}

// At is the place of a line's column.
func (t Text) At(line, column int) (int, api.Errno) {
	if !t.hasLine(line) {
		return 0, api.ErrRange
	}
	begin, end := t.begin(line), t.end(line)
	if column < 0 || column > end-begin {
		return 0, api.ErrRange
	}
	return begin + column, api.OK
}

// Line is a line without its line feed.
func (t Text) Line(line int) (string, api.Errno) {
	if !t.hasLine(line) {
		return "", api.ErrRange
	}
	return t.text[t.begin(line):t.end(line)], api.OK
}

// Cut is what a span has.
func (t Text) Cut(s Span) (string, api.Errno) {
	if !s.Sound(len(t.text)) {
		return "", api.ErrRange
	}
	return t.text[s.From:s.To], api.OK
}

// Touched are the first and the last line of which a span has something; an empty one its place's.
func (t Text) Touched(s Span) (first, last int, e api.Errno) {
	if !s.Sound(len(t.text)) {
		return 0, 0, api.ErrRange
	}
	end := s.From
	if s.Long() > 0 {
		end = s.To - 1
	}
	return t.lineOf(s.From), t.lineOf(end), api.OK
}

func (t Text) hasLine(line int) bool {
	return 0 <= line && line <= len(t.feeds)
}

// lineOf counts the line feeds ahead of a place.
func (t Text) lineOf(at int) int {
	line, _ := slices.BinarySearch(t.feeds, at)
	return line
}

func (t Text) begin(line int) int {
	if line == 0 {
		return 0
	}
	return t.feeds[line-1] + 1
}

func (t Text) end(line int) int {
	if line == len(t.feeds) {
		return len(t.text)
	}
	return t.feeds[line]
}
