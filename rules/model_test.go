package rules

import (
	"strings"

	"winnow/api"
)

// A model is P3 told once more, in another way: it descends into brackets
// instead of going along the bytes, and looks names up in a set.
type model struct {
	text  string
	at    int
	errno api.Errno
	place int
	begun []int // the places of the names that begin rules
	used  []int // the places of the names in expressions
}

func modelCheck(text string) (api.Errno, int) {
	if len(text) > 300 {
		return api.ErrLong, 0
	}
	m := &model{text: text}
	m.rule()
	for m.errno == api.OK && m.at < len(text) {
		m.rule()
	}
	if m.errno != api.OK {
		return m.errno, m.place
	}
	begun := map[byte]bool{}
	for _, at := range m.begun {
		if begun[text[at]] {
			return api.ErrTwice, at
		}
		begun[text[at]] = true
	}
	for _, at := range m.used {
		if !begun[text[at]] {
			return api.ErrName, at
		}
	}
	return api.OK, 0
}

const (
	modelLetters = "abcdefghijklmnopqrstuvwxyz"
	modelNames   = "ABCDEFGHIJKLMNOPQRSTUVWXYZ"
	modelOpening = "([{<"
	modelClosing = ")]}>"
)

// take takes the next byte, if it is one of a set: the end of the text is none.
func (m *model) take(set string) bool {
	if m.errno != api.OK {
		return false
	}
	if m.at == len(m.text) || strings.IndexByte(set, m.text[m.at]) < 0 {
		m.fail(api.ErrForm, m.at)
		return false
	}
	m.at++
	return true
}

func (m *model) fail(errno api.Errno, place int) {
	m.errno, m.place = errno, place
}

func (m *model) rule() {
	m.begun = append(m.begun, m.at)
	if m.take(modelNames) && m.take("=") {
		m.expression(';', 0)
	}
}

// expression takes an expression, with that many brackets around it, and the
// byte that ends it.
func (m *model) expression(end byte, around int) {
	alternatives := 1
	for m.take(modelLetters + modelNames + modelOpening + "|" + string(end)) {
		place := m.at - 1
		b := m.text[place]
		bracket := strings.IndexByte(modelOpening, b)
		switch {
		case b == end:
			return
		case b == '|' && alternatives == 10:
			m.fail(api.ErrMany, place)
		case b == '|':
			alternatives++
		case bracket >= 0 && around == 5:
			m.fail(api.ErrDeep, place)
		case bracket >= 0:
			m.expression(modelClosing[bracket], around+1)
		case strings.IndexByte(modelNames, b) >= 0:
			m.used = append(m.used, place)
		}
	}
}
