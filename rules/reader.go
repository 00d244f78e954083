package rules

import (
	"winnow/api"
	"winnow/marks"
)

// What a reader waits for.
const (
	wantsName   = 0 // the name of a rule, or the end of the text
	wantsEquals = 1 // the `=` behind that name
	wantsFactor = 2 // more of an expression, or its end
)

// A reader goes along a grammar, byte for byte. Of what it has read it keeps
// only what decides whether the next byte may stand there.
type reader struct {
	wants   int
	deep    int                  // how many brackets are open
	closing [api.MaxDeep]byte    // what closes each of them, the outermost first
	bars    [api.MaxDeep + 1]int // the `|` of each open expression, the rule's first
}

// read takes the next byte, or answers why it may not stand here.
func (r *reader) read(mark byte) api.Errno {
	switch r.wants {
	case wantsName:
		return r.readName(mark)
	case wantsEquals:
		return r.readEquals(mark)
	}
	return r.readInExpression(mark)
}

func (r *reader) readName(mark byte) api.Errno {
	if !marks.IsName(mark) {
		return api.ErrForm
	}
	r.wants = wantsEquals
	return api.OK
}

func (r *reader) readEquals(mark byte) api.Errno {
	if mark != '=' {
		return api.ErrForm
	}
	r.wants = wantsFactor
	r.bars[0] = 0
	return api.OK
}

func (r *reader) readInExpression(mark byte) api.Errno {
	if marks.IsOpening(mark) {
		return r.readOpening(mark)
	}
	if marks.IsClosing(mark) {
		return r.readClosing(mark)
	}
	if mark == '|' {
		return r.readBar()
	}
	if mark == ';' {
		return r.readEnd()
	}
	if marks.IsLetter(mark) || marks.IsName(mark) {
		return api.OK
	}
	return api.ErrForm
}

func (r *reader) readOpening(mark byte) api.Errno {
	if r.deep >= api.MaxDeep {
		return api.ErrDeep
	}
	r.closing[r.deep] = marks.Closing(mark)
	r.deep++
	r.bars[r.deep] = 0
	return api.OK
}

func (r *reader) readClosing(mark byte) api.Errno {
	if r.deep == 0 || r.closing[r.deep-1] != mark {
		return api.ErrForm
	}
	r.deep--
	return api.OK
}

func (r *reader) readBar() api.Errno {
	// Behind the first `|` stands the alternative number 1.
	if r.bars[r.deep]+1 >= api.MaxAlts {
		return api.ErrMany
	}
	r.bars[r.deep]++
	return api.OK
}

func (r *reader) readEnd() api.Errno {
	if r.deep > 0 {
		return api.ErrForm
	}
	r.wants = wantsName
	return api.OK
}
