package script

import (
	"math"
	"strconv"
	"strings"

	"chaff/news"
)

const (
	none  = "-" // stands for no bytes, and for no signs
	colon = ":"
	base  = "0123456789abcdef"
)

// words are those of a line that weren't read yet.
type words struct {
	left  []string
	wrong bool // one that was read isn't what it should be
}

// next reads the next word. One that is wanting is read as an empty one, which nothing is written as.
func next[T any](w *words, read func(word string) (T, bool)) T {
	word := ""
	if len(w.left) > 0 {
		word, w.left = w.left[0], w.left[1:]
	}
	v, ok := read(word)
	if !ok {
		w.wrong = true
	}
	return v
}

// upTo reads a number that isn't above the most.
func upTo(most uint64) func(word string) (uint64, bool) {
	return func(word string) (uint64, bool) {
		v, err := strconv.ParseUint(word, 10, 64)
		// Noughts ahead would get lost.
		return v, err == nil && v <= most && digits(v) == word
	}
}

// digits is a number's word.
func digits(v uint64) string { return strconv.FormatUint(v, 10) }

// row reads a value, and how many times it was met.
func row(word string) (news.Row, bool) {
	ahead, behind, ok := strings.Cut(word, colon)
	number := upTo(math.MaxUint32)
	value, right := number(ahead)
	times, good := number(behind)
	return news.Row{Value: uint32(value), Times: uint32(times)}, ok && right && good
}

// rowWord is a row's word.
func rowWord(r news.Row) string { return digits(uint64(r.Value)) + colon + digits(uint64(r.Times)) }

// hex reads bytes by pairs of digits.
func hex(word string) (string, bool) {
	if word == none {
		return "", true
	}
	if word == "" || len(word)%2 != 0 {
		return "", false
	}
	var out strings.Builder
	for i := 0; i < len(word); i += 2 {
		high, low := strings.IndexByte(base, word[i]), strings.IndexByte(base, word[i+1])
		if high < 0 || low < 0 {
			return "", false
		}
		out.WriteByte(byte(high<<4 | low))
	}
	return out.String(), true
}

// hexWord is the word of bytes.
func hexWord(s string) string {
	if s == "" {
		return none
	}
	var out strings.Builder
	for i := range len(s) {
		out.WriteByte(base[s[i]>>4])
		out.WriteByte(base[s[i]&15])
	}
	return out.String()
}

// bits reads which writes are kept.
func bits(word string) ([]bool, bool) {
	if word == none {
		return nil, true
	}
	var keep []bool
	for i := range len(word) {
		if word[i] != '0' && word[i] != '1' {
			return nil, false
		}
		keep = append(keep, word[i] == '1')
	}
	return keep, word != ""
}

// bitsWord is the word of which writes are kept.
func bitsWord(keep []bool) string {
	if len(keep) == 0 {
		return none
	}
	var out strings.Builder
	for _, kept := range keep {
		if kept {
			out.WriteByte('1')
		} else {
			out.WriteByte('0')
		}
	}
	return out.String()
}
