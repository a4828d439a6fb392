package lex

import (
	"fmt"
	"math/rand"
	"regexp"
	"slices"
	"strings"
	"testing"
	"unsafe"

	"jetsam/api"
)

var reserved = []string{"chan", "block", "drop", "lossy", "from", "to", "rule", "proc", "var", "if", "else", "while", "send", "recv", "assert", "input"}

var signs = []string{"{", "}", "(", ")", ";", ",", ".", "=", "==", "!=", "<", "<=", ">", ">=", "+", "-", "*", "/", "%"}

func wantWords(t *testing.T, text string, want []Token) {
	t.Helper()
	got, at, err := Lex(text)
	if err != api.OK || at != 0 || !slices.Equal(got, want) {
		t.Errorf("Lex(%q) = %v, %d, %d; want %v, 0, 0", text, got, at, err, want)
	}
}

func wantError(t *testing.T, text string, at int, err api.Errno) {
	t.Helper()
	words, a, e := Lex(text)
	if len(words) != 0 || a != at || e != err {
		t.Errorf("Lex(%.60q) = %d words, %d, %d; want none, %d, %d", text, len(words), a, e, at, err)
	}
}

func TestP1_1_Kinds(t *testing.T) {
	wantWords(t, "x=10;", []Token{{Name, "x", 0, 0}, {Sign, "=", 0, 1}, {Number, "10", 10, 2}, {Sign, ";", 0, 4}})
	wantWords(t, "", nil)
	wantWords(t, " \n\n  ", nil)
	wantWords(t, "\nwhile\n 0 z9 ", []Token{{Word, "while", 0, 1}, {Number, "0", 0, 8}, {Name, "z9", 0, 10}})
	for _, s := range signs {
		wantWords(t, s, []Token{{Sign, s, 0, 0}})
		wantWords(t, "a"+s+"1", []Token{{Name, "a", 0, 0}, {Sign, s, 0, 1}, {Number, "1", 1, 1 + len(s)}})
	}
	for _, s := range reserved {
		wantWords(t, s, []Token{{Word, s, 0, 0}})
		wantWords(t, s+"1", []Token{{Name, s + "1", 0, 0}})
		wantWords(t, s+"x "+s, []Token{{Name, s + "x", 0, 0}, {Word, s, 0, len(s) + 2}})
	}
}

func TestP1_1_LongestWord(t *testing.T) {
	wantWords(t, "<==", []Token{{Sign, "<=", 0, 0}, {Sign, "=", 0, 2}})
	wantWords(t, "< =", []Token{{Sign, "<", 0, 0}, {Sign, "=", 0, 2}})
	wantWords(t, "===", []Token{{Sign, "==", 0, 0}, {Sign, "=", 0, 2}})
	wantWords(t, "!==", []Token{{Sign, "!=", 0, 0}, {Sign, "=", 0, 2}})
	wantWords(t, "=>=", []Token{{Sign, "=", 0, 0}, {Sign, ">=", 0, 1}})
	wantWords(t, "x1 1", []Token{{Name, "x1", 0, 0}, {Number, "1", 1, 3}})
	wantWords(t, "proctor", []Token{{Name, "proctor", 0, 0}})
	wantWords(t, "1-1", []Token{{Number, "1", 1, 0}, {Sign, "-", 0, 1}, {Number, "1", 1, 2}})
}

func TestP1_1_Numbers(t *testing.T) {
	for text, num := range map[string]int{"0": 0, "7": 7, "2147483647": api.MaxInt, "2147483639": 2147483639, "1000000000": 1000000000} {
		wantWords(t, text, []Token{{Number, text, num, 0}})
	}
	for _, text := range []string{"01", "00", "007", "1x", "0x", "12a", "2147483648", "2147483650", "3000000000", "9999999999", "21474836470", "18446744073709551617", "4294967296", strings.Repeat("9", 5000), "2147483648z", "1else"} {
		wantError(t, text, 0, api.ErrNum)
		wantError(t, "a "+text+" b", 2, api.ErrNum)
	}
	// Only a letter a to z may not stand right behind a number.
	wantError(t, "1A", 1, api.ErrChar)
	wantError(t, "1_", 1, api.ErrChar)
}

func TestP1_1_Names(t *testing.T) {
	twelve, thirteen := "abcdefghijkl", "abcdefghijkl9"
	wantWords(t, twelve, []Token{{Name, twelve, 0, 0}})
	wantError(t, thirteen, 0, api.ErrNum)
	wantError(t, "x = "+thirteen+";", 4, api.ErrNum)
	wantError(t, thirteen+"A", 0, api.ErrNum)
	wantError(t, twelve+"A", 12, api.ErrChar)
	wantError(t, "a_b", 1, api.ErrChar)
}

func TestP1_1_EachByte(t *testing.T) {
	for b := 0; b < 256; b++ {
		text := string([]byte{byte(b)})
		switch {
		case b == ' ' || b == '\n':
			wantWords(t, text, nil)
		case b >= 'a' && b <= 'z':
			wantWords(t, text, []Token{{Name, text, 0, 0}})
		case b >= '0' && b <= '9':
			wantWords(t, text, []Token{{Number, text, b - '0', 0}})
		case slices.Contains(signs, text):
			wantWords(t, text, []Token{{Sign, text, 0, 0}})
		default:
			wantError(t, text, 0, api.ErrChar)
			wantError(t, "x "+text+" 01", 2, api.ErrChar)
		}
	}
}

func TestP1_1_FirstFaultIsTold(t *testing.T) {
	wantError(t, "01 A", 0, api.ErrNum)
	wantError(t, "A 01", 0, api.ErrChar)
	wantError(t, "x ! = y", 2, api.ErrChar)
	wantError(t, "x!", 1, api.ErrChar)
	wantError(t, "a\tb", 1, api.ErrChar)
	wantError(t, "a\r\n", 1, api.ErrChar)
	wantError(t, "a \xc3\xa4", 2, api.ErrChar)
}

func TestP1_1_HowManyWords(t *testing.T) {
	for _, word := range []string{"x ", "12\n", ";", "while ", "<="} {
		at := strings.Repeat(word, api.MaxWords)
		if words, _, err := Lex(at); err != api.OK || len(words) != api.MaxWords || words[api.MaxWords-1].At != (api.MaxWords-1)*len(word) {
			t.Errorf("2000 of %q: %d words, %d", word, len(words), err)
		}
		above := at + word
		wantError(t, above, len(above), api.ErrLong)
		wantError(t, above+" \n ", len(above)+3, api.ErrLong)
		wantError(t, strings.Repeat(word, 9000), 9000*len(word), api.ErrLong)
		wantError(t, above+" ? ", len(above)+1, api.ErrChar)
		wantError(t, strings.Repeat(word, 9000)+" 01", 9000*len(word)+1, api.ErrNum)
	}
}

func TestP1_1_Reserved(t *testing.T) {
	for _, s := range reserved {
		if !Reserved(s) || Reserved(s+"s") || Reserved(s+" ") || Reserved(" "+s) || Reserved(s[1:]) || Reserved(strings.ToUpper(s)) {
			t.Error(s)
		}
	}
	for _, s := range []string{"", "x", "of", "none", "channel", "1", "="} {
		if Reserved(s) {
			t.Error(s)
		}
	}
}

var wordPattern = regexp.MustCompile(`^(?:[a-z][a-z0-9]*|[0-9]+[a-z]?|[=!<>]=|[{}();,.=<>+*/%-])`)

// byPattern is Lex made otherwise, for texts of fewer than 2000 words.
func byPattern(text string) ([]Token, int, api.Errno) {
	var words []Token
	for at := 0; at < len(text); {
		if strings.IndexByte(" \n", text[at]) >= 0 {
			at++
			continue
		}
		s := wordPattern.FindString(text[at:])
		if s == "" {
			return nil, at, api.ErrChar
		}
		word := Token{Kind: Sign, Text: s, At: at}
		switch {
		case slices.Contains(reserved, s):
			word.Kind = Word
		case s[0] >= 'a' && s[0] <= 'z':
			word.Kind = Name
			if len(s) > 12 {
				return nil, at, api.ErrNum
			}
		case s[0] >= '0' && s[0] <= '9':
			word.Kind = Number
			fmt.Sscan(s, &word.Num)
			if fmt.Sprint(word.Num) != s || word.Num > 2147483647 {
				return nil, at, api.ErrNum
			}
		}
		words = append(words, word)
		at += len(s)
	}
	return words, 0, api.OK
}

func TestP1_1_RandomTexts(t *testing.T) {
	random := rand.New(rand.NewSource(1))
	for round := 0; round < 200000; round++ {
		alphabet := "abz019=!<>;+ \n"
		if round%3 == 0 {
			alphabet = "abcdefghijklmnopqrstuvwxyz0123456789{}();,.=!<>+-*/% \n  ifto"
		}
		if round%50 == 0 {
			alphabet += "A_\x00\xff&"
		}
		text := make([]byte, random.Intn(30))
		for i := range text {
			text[i] = alphabet[random.Intn(len(alphabet))]
		}
		words, at, err := byPattern(string(text))
		if err == api.OK {
			wantWords(t, string(text), words)
		} else {
			wantError(t, string(text), at, err)
		}
		if t.Failed() {
			return
		}
	}
}

func TestP1_2_AnswersAreNewMemory(t *testing.T) {
	text := strings.Clone("while x < 10 + yy")
	first, _, _ := Lex(text)
	from := uintptr(unsafe.Pointer(unsafe.StringData(text)))
	for _, word := range first {
		at := uintptr(unsafe.Pointer(unsafe.StringData(word.Text)))
		if at >= from && at < from+uintptr(len(text)) {
			t.Errorf("%q is a piece of the text", word.Text)
		}
	}
	for i := range first {
		first[i] = Token{}
	}
	second, _, _ := Lex(text)
	if len(second) != 6 || second[0] != (Token{Word, "while", 0, 0}) || text != "while x < 10 + yy" {
		t.Error(second, text)
	}
}
