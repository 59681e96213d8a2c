package shell

import (
	"strconv"
	"strings"
)

// maxWords is how many words a line has at most.
const maxWords = 6

// maxDigits is how many digits a number has at most.
const maxDigits = 9

// parse answers a line's first word, and the numbers behind it, if these are such as that word has.
func parse(line string) (string, []int, bool) {
	// One word more shows that there are too many of them.
	words := strings.SplitN(line, " ", maxWords+1)
	word := words[0]
	count, ok := numbersBehind(word)
	if !ok || len(words)-1 != count {
		return "", nil, false
	}
	var all []int
	for _, s := range words[1:] {
		n, ok := number(s)
		if !ok {
			return "", nil, false
		}
		all = append(all, n)
	}
	return word, all, true
}

// numbersBehind answers how many numbers stand behind a first word, if there is such a line.
func numbersBehind(word string) (int, bool) {
	switch word {
	case "roll", "tick", "crash", "tree":
		return 0, true
	case "org", "shut", "balance", "trial", "day":
		return 1, true
	case "team", "project", "move", "limit", "topup", "refund", "bill", "shares":
		return 2, true
	case "flat":
		return 3, true
	case "open", "close", "event":
		return 4, true
	case "volume", "more":
		return 5, true
	}
	return 0, false
}

// number answers the number that a word is, if it is one: in one way alone each number is told.
func number(word string) (int, bool) {
	if len(word) > maxDigits || word != "0" && strings.HasPrefix(word, "0") {
		return 0, false
	}
	for _, c := range []byte(word) {
		if c < '0' || c > '9' {
			return 0, false
		}
	}
	// Of no digits this is an error, too.
	n, err := strconv.Atoi(word)
	return n, err == nil
}
