package talk

import (
	"pursehouse/api"
	"pursehouse/pick"
	"pursehouse/tag"
)

// The tags of how an answer is written.
const (
	tagAnswer     = 162
	ansErr        = 128
	ansDo         = 129
	ansApps       = 130
	ansCount      = 131
	ansLast       = 132
	ansFile       = 133
	ansIssuerSig  = 134
	ansIssuerRest = 135
	ansCardSig    = 136
	ansCardRest   = 137
	ansLeft       = 138
	ansKind       = 139
	ansReplyCount = 140
	ansSeal       = 141
	ansBoundSig   = 142
	ansBoundRest  = 143
)

// Answer is how an answer is written.
func Answer(a api.Answer) (string, api.Errno) {
	if !isDo(a.Do) {
		return "", api.ErrKind
	}
	p := &parts{}
	p.number(ansErr, int(a.Err), 1)
	p.number(ansDo, a.Do, 1)
	switch a.Err {
	case api.OK:
		p.answer(a)
	case api.ErrRight: // Who has no right to it is told how many tries are left.
		if a.Do == api.DoPin {
			p.number(ansLeft, a.Left, 1)
		}
	}
	return p.print(tagAnswer)
}

// answer adds what is said where nothing went wrong: numbers ahead of all else, for what is wrong with them counts more.
func (p *parts) answer(a api.Answer) {
	switch a.Do {
	case api.DoApps:
		apps, e := pick.Print(a.Apps)
		p.blame(e)
		p.text(ansApps, apps)
	case api.DoStart:
		p.number(ansCount, a.Count, 2)
		p.number(ansLast, a.Last, 2)
		file, e := FileText(a.File)
		p.blame(e)
		p.text(ansFile, file)
		p.cert(ansIssuerSig, ansIssuerRest, a.File.Issuer)
		p.cert(ansCardSig, ansCardRest, a.File.Card)
	case api.DoPin:
		p.number(ansLeft, a.Left, 1)
	case api.DoAsk, api.DoEnd:
		p.number(ansKind, a.Reply.Kind, 1)
		p.number(ansReplyCount, a.Reply.Count, 2)
		p.text(ansSeal, a.Reply.Seal)
		p.cert(ansBoundSig, ansBoundRest, a.Reply.Bound)
	}
}

// ReadAnswer reads an answer.
func ReadAnswer(s string) (api.Answer, api.Errno) {
	items, e := tag.Parse(s)
	if e != api.OK {
		return api.Answer{}, api.ErrForm
	}
	a := answerOf(items)
	// Written anew, so that nothing is taken that Answer would write in another way.
	if again, e := Answer(a); e != api.OK || again != s {
		return api.Answer{}, api.ErrForm
	}
	return a, api.OK
}

// answerOf is the one answer that may be written so; whether it is, is not asked here.
func answerOf(l heard) api.Answer {
	file := fileOf(l.text(ansFile))
	file.Issuer = l.cert(ansIssuerSig, ansIssuerRest)
	file.Card = l.cert(ansCardSig, ansCardRest)
	return api.Answer{
		Err:   api.Errno(l.number(ansErr)),
		Do:    l.number(ansDo),
		Apps:  l.apps(ansApps),
		Count: l.number(ansCount),
		Last:  l.number(ansLast),
		Left:  l.number(ansLeft),
		File:  file,
		Reply: api.Reply{
			Kind:  l.number(ansKind),
			Count: l.number(ansReplyCount),
			Seal:  l.text(ansSeal),
			Bound: l.cert(ansBoundSig, ansBoundRest),
		},
	}
}
