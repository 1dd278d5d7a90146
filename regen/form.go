package regen

import (
	"slices"

	"mailguard/api"
	"mailguard/ctype"
	"mailguard/header"
	"mailguard/mime"
)

// isDeep: does a part with parts stand within too many others, if this one stands within so many?
func isDeep(p api.Part, within int) bool {
	if len(p.Parts) == 0 {
		return false
	}
	// What stands deeper isn't looked at, however deep it goes.
	return within >= api.MaxDepth || slices.ContainsFunc(p.Parts, func(part api.Part) bool { return isDeep(part, within+1) })
}

// hasForm: is a tree, and the canonical one, as it must be, but for its lengths?
func hasForm(p api.Part) bool {
	return hasOwnForm(p) && !slices.ContainsFunc(p.Parts, func(part api.Part) bool { return !hasForm(part) })
}

func hasOwnForm(p api.Part) bool {
	hasParts := len(p.Parts) > 0
	if !ctype.Right(p.Type) || (p.Type.Main == multipart) != hasParts {
		return false
	}
	// A boundary may be a parameter too many, whichever it is.
	if hasParts && (p.Body != "" || !ctype.Right(withBoundary(p.Type, boundaryOf(0)))) {
		return false
	}
	// Those that regen lays itself are right: a type's text begins and ends with no blank.
	return !slices.ContainsFunc(mime.Unfielded(p), func(f api.Field) bool { return !header.Right(f) })
}
