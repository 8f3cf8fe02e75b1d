package schema

import (
	"regexp"
	"strings"
	"testing"

	"twinwire/api"
	"twinwire/fault"
)

// The grammar once more, told by one letter a word: M message, E enum, R repeated, O optional, F oneof, P map, T a type, N a name, D a number, X a byte that stands nowhere; signs are themselves.
var whole = regexp.MustCompile(`^(MN\{([RO]?[TN]N=D;|P<[TN],[TN]>N=D;|FN\{([TN]N=D;)+\})*\}|EN\{(N=D;)*\})*$`)

const letters = "MEROFPTND{}=;<>,X"

func wordOf(letter byte) string {
	switch letter {
	case 'M':
		return "message"
	case 'E':
		return "enum"
	case 'R':
		return "repeated"
	case 'O':
		return "optional"
	case 'F':
		return "oneof"
	case 'P':
		return "map"
	case 'T':
		return "int32"
	case 'N':
		return "name"
	case 'D':
		return "1"
	case 'X':
		return "-"
	}
	return string(letter)
}

// endings has every way in which a schema may go on and end from any place in it.
func endings() []string {
	out := []string{""}
	for _, s := range []string{"MN{P<T,T>N=D;}", "MN{RTN=D;}", "MN{FN{TN=D;}}", "EN{N=D;}"} {
		for at := range s {
			out = append(out, s[at:])
		}
	}
	return out
}

// wrongAt is the first letter with which no schema goes on, the number of letters if some are missing, or -1.
func wrongAt(s string, ends []string) int {
	if whole.MatchString(s) {
		return -1
	}
	for n := range len(s) {
		if !goesOn(s[:n+1], ends) {
			return n
		}
	}
	return len(s)
}

func goesOn(s string, ends []string) bool {
	for _, e := range ends {
		if whole.MatchString(s + e) {
			return true
		}
	}
	return false
}

// placed writes letters as a text, and tells where each word stands, and where the text ends.
func placed(s string) (string, []int) {
	var b strings.Builder
	var places []int
	for i := range len(s) {
		places = append(places, b.Len())
		b.WriteString(wordOf(s[i]) + " ")
	}
	return b.String(), append(places, b.Len())
}

// givenUp is the place at which the grammar gives up, or -1.
func givenUp(t *testing.T, text string) (at int) {
	defer func() {
		if r := recover(); r != nil {
			f, ok := r.(fault.Fault)
			if !ok || f.Err != api.ErrSchema {
				t.Errorf("%q: gave up with %v", text, r)
			}
			at = f.At
		}
	}()
	r := reader{words: split(text)}
	r.tree()
	return -1
}

// TestGrammar holds the reader against the grammar's other telling: at every text that is one word away from a schema.
func TestGrammar(t *testing.T) {
	ends := endings()
	look := func(s string) {
		text, places := placed(s)
		want := wrongAt(s, ends)
		if want >= 0 {
			want = places[want]
		}
		if got := givenUp(t, text); got != want {
			t.Errorf("%q: gave up at %d, want %d", text, got, want)
		}
	}
	for _, s := range []string{"", "EN{}MN{}", "MN{TN=D;ONN=D;P<T,N>N=D;FN{TN=D;NN=D;}RTN=D;}EN{N=D;N=D;}MN{}"} {
		look(s)
		for at := range len(s) + 1 {
			look(s[:at])
			for _, l := range letters {
				look(s[:at] + string(l) + s[at:])
			}
		}
		for at := range len(s) {
			look(s[:at] + s[at+1:])
			for _, l := range letters {
				look(s[:at] + string(l) + s[at+1:])
			}
		}
	}
}
