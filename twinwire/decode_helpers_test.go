package twinwire_test

import (
	"encoding/hex"
	"strconv"
	"strings"
	"testing"

	"twinwire/api"
	"twinwire/twinwire"
)

var bothWays = []int{api.Walk, api.Plan}

func mustParse(t *testing.T, text string) *twinwire.Schema {
	t.Helper()
	s, e, at := twinwire.Parse(text)
	if e != api.OK {
		t.Fatalf("Parse(%q): %d at %d", text, e, at)
	}
	return s
}

// unhex reads bytes that are written by two digits each, with spaces as one likes.
func unhex(t *testing.T, digits string) string {
	t.Helper()
	b, err := hex.DecodeString(strings.ReplaceAll(digits, " ", ""))
	if err != nil {
		t.Fatalf("%q: %v", digits, err)
	}
	return string(b)
}

// long is a record of kind 2, with a length of one byte.
func long(t *testing.T, number int, within string) string {
	t.Helper()
	if number > 15 || len(within) > 127 {
		t.Fatalf("no short record: %d, %d bytes", number, len(within))
	}
	return string([]byte{byte(number<<3 | 2), byte(len(within))}) + within
}

// show writes a message down: fields as number=value,value; unknown records behind a ?. A value that is empty in all is 0.
func show(m api.Msg) string {
	var parts []string
	for _, f := range m.Fields {
		var values []string
		for _, v := range f.Values {
			values = append(values, showValue(v))
		}
		parts = append(parts, strconv.Itoa(f.Number)+"="+strings.Join(values, ","))
	}
	if m.Unknown != "" {
		parts = append(parts, "?"+hex.EncodeToString([]byte(m.Unknown)))
	}
	return strings.Join(parts, " ")
}

func showValue(v api.Value) string {
	var parts []string
	if v.N != 0 {
		parts = append(parts, strconv.FormatInt(int64(v.N), 10))
	}
	if v.S != "" {
		parts = append(parts, strconv.QuoteToASCII(v.S))
	}
	if len(v.M.Fields) > 0 || v.M.Unknown != "" {
		parts = append(parts, "{"+show(v.M)+"}")
	}
	if len(parts) == 0 {
		return "0"
	}
	return strings.Join(parts, "&")
}

// wantRead asks in both ways.
func wantRead(t *testing.T, s *twinwire.Schema, name, b, want string) {
	t.Helper()
	for _, way := range bothWays {
		m, e, at := s.Decode(way, name, b)
		if e != api.OK || at != 0 || show(m) != want {
			t.Errorf("Decode(%d, %s, %x): %s, %d at %d, want %s", way, name, b, show(m), e, at, want)
		}
	}
}

// wantHex is wantRead, of bytes by their digits.
func wantHex(t *testing.T, s *twinwire.Schema, name, digits, want string) {
	t.Helper()
	wantRead(t, s, name, unhex(t, digits), want)
}

// wantFault asks in both ways; with an error there is no message.
func wantFault(t *testing.T, s *twinwire.Schema, name, b string, e api.Errno, at int) {
	t.Helper()
	for _, way := range bothWays {
		m, gotE, gotAt := s.Decode(way, name, b)
		if m.Fields != nil || m.Unknown != "" || gotE != e || gotAt != at {
			t.Errorf("Decode(%d, %s, %x): %s, %d at %d, want %d at %d", way, name, b, show(m), gotE, gotAt, e, at)
		}
	}
}

// wantMarkedFault takes bytes by their digits, with a ^ at the place that is to be told.
func wantMarkedFault(t *testing.T, s *twinwire.Schema, name string, e api.Errno, texts ...string) {
	t.Helper()
	for _, m := range texts {
		digits, _ := marked(t, m)
		ahead, _, _ := strings.Cut(m, "^")
		wantFault(t, s, name, unhex(t, digits), e, len(unhex(t, ahead)))
	}
}
