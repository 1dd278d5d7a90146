package mime

import (
	"mailguard/api"
	"mailguard/base64"
	"mailguard/ctype"
	"mailguard/header"
	"mailguard/quoted"
)

const (
	// multipart: the Main of a type whose texts have parts.
	multipart = "multipart"

	// The codings.
	sevenBit = "7bit"
	eightBit = "8bit"
	inBase64 = "base64"
	inQuoted = "quoted-printable"
)

// Parse: a message's tree.
func Parse(s string) (api.Part, api.Errno) {
	if len(s) > api.MaxMessage {
		return api.Part{}, api.ErrLong
	}
	return reader()(s, 0)
}

// reader answers what reads the text of a part that stands within so many multiparts, and counts the parts of all that it reads.
func reader() func(s string, within int) (api.Part, api.Errno) {
	count := 0
	var read func(s string, within int) (api.Part, api.Errno)
	read = func(s string, within int) (api.Part, api.Errno) {
		if count == api.MaxParts {
			return api.Part{}, api.ErrLong
		}
		count++
		p, texts, e := readOne(s)
		if e != api.OK {
			return api.Part{}, e
		}
		if len(texts) > 0 && within >= api.MaxDepth {
			return api.Part{}, api.ErrDeep
		}
		for _, text := range texts {
			part, e := read(text, within+1)
			if e != api.OK {
				return api.Part{}, e
			}
			p.Parts = append(p.Parts, part)
		}
		return p, api.OK
	}
	return read
}

// readOne reads a part without its parts: of a multipart it answers their texts.
func readOne(s string) (p api.Part, texts []string, e api.Errno) {
	fields, raw, e := header.Parse(s)
	if e != api.OK {
		return api.Part{}, nil, e
	}
	t, e := typeOf(fields)
	if e != api.OK {
		return api.Part{}, nil, e
	}
	coding, e := codingOf(fields)
	if e != api.OK {
		return api.Part{}, nil, e
	}
	p = api.Part{Fields: fields, Type: t}
	if t.Main == multipart {
		texts, e = textsOf(raw, t, coding)
	} else {
		p.Body, e = decode(raw, coding)
	}
	if e != api.OK {
		return api.Part{}, nil, e
	}
	return p, texts, api.OK
}

func typeOf(l []api.Field) (api.Type, api.Errno) {
	told, ok := header.Get(l, typeName)
	if !ok {
		return api.Type{Main: "text", Sub: "plain"}, api.OK
	}
	return ctype.Parse(told)
}

func codingOf(l []api.Field) (string, api.Errno) {
	told, ok := header.Get(l, codingName)
	if !ok {
		return sevenBit, api.OK
	}
	for _, coding := range []string{sevenBit, eightBit, inBase64, inQuoted} {
		// Not by strings.ToLower, which makes an i of a letter beyond A to Z, too.
		if header.Same(told, coding) {
			return coding, api.OK
		}
	}
	return "", api.ErrForm
}

func decode(raw, coding string) (string, api.Errno) {
	switch coding {
	case inBase64:
		return base64.Unfold(raw)
	case inQuoted:
		return quoted.Decode(raw)
	default:
		return raw, api.OK
	}
}
