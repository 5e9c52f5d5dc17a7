package desk

import (
	"strconv"
	"strings"

	"lockkeeper/api"
	"lockkeeper/ops"
)

const mostDigits = 9

// command is a line: its first word, its numbers, and, of do, the operation.
type command struct {
	name string
	n    []int
	op   ops.Op
}

// parse tells the command of a line; false, if it is none.
func parse(line string) (command, bool) {
	words := strings.Split(line, " ")
	name, rest := words[0], words[1:]
	if name == "do" {
		return parseDo(rest)
	}
	count, ok := howMany(name)
	if !ok || len(rest) != count {
		return command{}, false
	}
	c := command{name: name}
	for _, word := range rest {
		n, ok := number(word)
		if !ok {
			return command{}, false
		}
		c.n = append(c.n, n)
	}
	if name == "start" && c.n[0] > api.MaxWorkers {
		return command{}, false
	}
	return c, true
}

// howMany tells how many numbers stand behind a first word; false, if no line begins with it.
func howMany(name string) (int, bool) {
	switch name {
	case "pump", "round", "history", "pages", "clock":
		return 0, true
	case "step", "finish", "fault", "age", "run", "state", "read":
		return 1, true
	case "start":
		return 2, true
	}
	return 0, false
}

// parseDo tells the command of the words behind do: a worker, a kind, an id, and maybe a body.
func parseDo(words []string) (command, bool) {
	body := ""
	switch len(words) {
	case 3:
	case 4:
		body = words[3]
	default:
		return command{}, false
	}
	who, okWho := number(words[0])
	kind, okKind := kindOf(words[1])
	id, okId := number(words[2])
	if !okWho || who >= api.MaxWorkers || !okKind || !okId {
		return command{}, false
	}
	return command{name: "do", n: []int{who}, op: ops.Op{Kind: kind, Id: id, Body: body}}, true
}

func kindOf(word string) (int, bool) {
	switch word {
	case "new":
		return ops.New, true
	case "read":
		return ops.Read, true
	case "write":
		return ops.Write, true
	case "delete":
		return ops.Delete, true
	}
	return 0, false
}

// number tells the number that a word is; false, if it is none.
func number(word string) (int, bool) {
	if word == "" || len(word) > mostDigits || word[0] == '0' && word != "0" {
		return 0, false
	}
	for _, b := range []byte(word) {
		if b < '0' || b > '9' {
			return 0, false
		}
	}
	n, err := strconv.Atoi(word)
	return n, err == nil
}
