package value_test

import (
	"math"
	"testing"
)

// P11.2, Text: rows.
func TestText(t *testing.T) {
	for _, c := range []struct {
		want string
		v    interface{ Text() string }
	}{
		{"0", num(0)}, {"1", num(1)}, {"-1", num(-1)}, {"1234567890", num(1234567890)}, {"9223372036854775807", num(math.MaxInt64)}, {"-9223372036854775808", num(math.MinInt64)},
		{`""`, str("")}, {`"a"`, str("a")}, {`"\""`, str(`"`)}, {`"\\"`, str(`\`)}, {`"a\nb"`, str("a\nb")}, {`"\t"`, str("\t")}, {`"\\n"`, str(`\n`)}, {"\"\r\x00\"", str("\r\x00")}, {"\"\xff\xe2\x82\"", str("\xff\xe2\x82")}, {`"é, {a: 1}"`, str("é, {a: 1}")}, {`"fn/1"`, str("fn/1")},
		{"fn/0", fun(0)}, {"fn/1", fun(1)}, {"fn/10", fun(10)}, {"fn/9223372036854775807", fun(math.MaxInt64)},
		{"{}", rec("")}, {"{a: 1}", rec("a", num(1))}, {`{a: "x", b: 1}`, rec("a b", str("x"), num(1))}, {"{A: 1, _: 2, a: 3}", rec("A _ a", num(1), num(2), num(3))},
		{"{" + longest + ": fn/2}", rec(longest, fun(2))}, {`{a: {b: {}, c: {d: "\n"}}, e: -5}`, rec("a e", rec("b c", rec(""), rec("d", str("\n"))), num(-5))},
		{"{a: {}, b: {}, c: {a: 1}}", rec("a b c", rec(""), rec(""), rec("a", num(1)))}, {`{a: fn/0, b: ""}`, roomy(rec("a b", fun(0), str("")))},
	} {
		if s := c.v.Text(); s != c.want {
			t.Errorf("%s, not %s", s, c.want)
		}
	}
}

// P11.4: values whose names are names have unlike texts just if they are unlike.
func TestTextsTell(t *testing.T) {
	l, seen := small(), map[string]string{}
	for _, v := range rights()[:16] {
		l = append(l, append(within(v), v)...)
	}
	r := chance(6)
	for range 20000 {
		l = append(l, made(r, 1+r.IntN(4), []string{"a", "aa", "b"}))
	}
	unlike := map[string]bool{}
	for _, v := range l {
		s := v.Text()
		unlike[line(v)] = true
		if was, ok := seen[s]; ok && was != line(v) {
			t.Fatalf("%s is the text of %s and %s", s, was, line(v))
		}
		seen[s] = line(v)
	}
	if len(seen) != len(unlike) || len(seen) < 2000 {
		t.Errorf("%d texts of %d values", len(seen), len(unlike))
	}
}
