package schema

import "strconv"

// Kind tells words apart where the grammar does not ask for one by its text.
type Kind int

const (
	Plain   Kind = iota // told by its text: a sign, or a word like "message"; or a byte that nobody asks for
	Name                // a NAME: no word of the grammar's own
	Number              // digits
	Builtin             // a type's word of the grammar's own, like "int32"
	End                 // behind the last word: its place is the text's length
)

// Word is a word of a schema's text, and its place there.
type Word struct {
	Kind Kind
	Text string
	At   int
}

// split tells the words of a text, and End behind them.
func split(text string) []Word {
	var words []Word
	for at := 0; at < len(text); {
		if isGap(text[at]) {
			at++
			continue
		}
		word := text[at:wordEnd(text, at)]
		words = append(words, Word{kindOf(word), word, at})
		at += len(word)
	}
	return append(words, Word{Kind: End, At: len(text)})
}

// wordEnd tells where the word that begins at a place ends.
func wordEnd(text string, at int) int {
	first, end := text[at], at+1
	switch {
	case isLetter(first):
		for end < len(text) && (isLetter(text[end]) || isDigit(text[end])) {
			end++
		}
	case isDigit(first) && first != '0': // a 0 in front is a number by itself
		for end < len(text) && isDigit(text[end]) {
			end++
		}
	}
	return end
}

func kindOf(word string) Kind {
	switch {
	case isDigit(word[0]):
		return Number
	case !isLetter(word[0]) || isKeyword(word):
		return Plain
	case isBuiltin(word):
		return Builtin
	}
	return Name
}

func isKeyword(word string) bool {
	switch word {
	case "message", "enum", "repeated", "optional", "oneof", "map":
		return true
	}
	return false
}

func isBuiltin(word string) bool {
	switch word {
	case "int32", "int64", "uint32", "uint64", "sint32", "sint64", "bool",
		"fixed32", "fixed64", "sfixed32", "sfixed64", "float", "double", "string", "bytes":
		return true
	}
	return false
}

func isGap(c byte) bool { return c == ' ' || c == '\n' }

func isLetter(c byte) bool {
	return c == '_' || 'a' <= c && c <= 'z' || 'A' <= c && c <= 'Z'
}

func isDigit(c byte) bool { return '0' <= c && c <= '9' }

// Value is the number that a Number's digits tell.
func (w Word) Value() uint64 {
	// The error is of no use: with too many digits the answer is the greatest
	// number there is, which is above every limit.
	n, _ := strconv.ParseUint(w.Text, 10, 64)
	return n
}
