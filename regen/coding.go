package regen

import (
	"mailguard/api"
	"mailguard/base64"
	"mailguard/quoted"
)

// coding: how a leaf's Body stands in its text, and what its field says of that.
type coding interface {
	name() string
	tell(body string) string
}

type inSigns struct{}

func (inSigns) name() string            { return "quoted-printable" }
func (inSigns) tell(body string) string { return quoted.Encode(body) }

type inLetters struct{}

func (inLetters) name() string            { return "base64" }
func (inLetters) tell(body string) string { return base64.Fold(body) }

func codingOf(t api.Type) coding {
	if t.Main == "text" {
		return inSigns{}
	}
	return inLetters{}
}
