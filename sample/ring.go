package sample

import (
	"strconv"
	"strings"
)

// Ring writes a text of processes each of which sends to the next one, by what
// pick chooses.
func Ring(pick func(n int) int) string {
	many := 2 + pick(3)
	var text, rules strings.Builder
	for at := range many {
		from, to := strconv.Itoa(at), strconv.Itoa((at+1)%many)
		kind := []string{"block", "drop", "lossy"}[pick(3)]
		text.WriteString("chan c" + from + " " + kind + " " + strconv.Itoa(1+pick(3)) + " from p" + from + " to p" + to + " { a , b } ; ")
		if pick(2) == 0 {
			rules.WriteString("rule c" + from + " { 0 a 1 ; 0 b 0 ; 1 a " + strconv.Itoa(pick(3)) + " ; 1 b 1 ; 2 b 2 ; } ")
		}
	}
	text.WriteString(rules.String())
	for at := range many {
		own, ahead := "c"+strconv.Itoa(at), "c"+strconv.Itoa((at+many-1)%many)
		text.WriteString("proc p" + strconv.Itoa(at) + " { var x ; var y ; ")
		if pick(3) == 0 {
			text.WriteString("send " + own + " . a ( " + strconv.Itoa(pick(5)) + " ) ; ")
		}
		text.WriteString("while ( 0 == 0 ) { recv " + ahead + " { a ( x ) { " + answer(own, pick) + "} ")
		if pick(4) > 0 {
			text.WriteString("b ( x ) { " + answer(own, pick) + "} ")
		}
		text.WriteString("} } } ")
	}
	return text.String()
}

// answer writes what is done with x, when it was taken.
func answer(own string, pick func(n int) int) string {
	parts := []string{
		"send OWN . a ( x ) ; ", "send OWN . b ( x + 1 ) ; ", "send OWN . a ( x - 1 ) ; ",
		"send OWN . a ( x / 2 + 10 ) ; ", "send OWN . b ( 7 ) ; ", "send OWN . b ( y ) ; ",
		"if ( x < 20 ) { send OWN . a ( x + 1 ) ; } ", "if ( x > 3 ) { y = 3 ; } else { y = x ; } ",
		"if ( x > 5 ) { x = 5 ; } while ( x < 5 ) { x = x + 1 ; } ", "y = y + 1 ; ", "if ( x >= 0 ) { y = x % 7 ; } ",
		"if ( x != 20 ) { send OWN . b ( y ) ; } ", "assert ( x < 100 ) ; ", "y = 100 / x ; ", "input y ; ",
	}
	var text strings.Builder
	for range 1 + pick(3) {
		text.WriteString(strings.ReplaceAll(parts[pick(len(parts))], "OWN", own))
	}
	return text.String()
}
