package cell

import (
	"strings"

	"pleach/api"
)

const (
	// signBit, turned, puts the ints below 0 below the others.
	signBit = 1 << 63
	// markedZero stands for a byte 0 of a text, so that two bytes 0 are its
	// end alone, and below all that a longer text goes on with there.
	markedZero = "\x00\xff"
	textEnd    = "\x00\x00"
)

// Key answers the tuple's key; "" and false of what is no tuple.
func Key(l []api.Val) (string, bool) {
	if !isTuple(l) {
		return "", false
	}
	var out []byte
	for _, v := range l {
		out = append(out, byte(v.Kind)+1)
		switch v.Kind {
		case api.Int:
			out = appendNumber(out, uint64(v.N)^signBit)
		case api.Bool:
			out = append(out, byte(v.N))
		case api.Text, api.Bytes:
			out = append(out, strings.ReplaceAll(v.S, "\x00", markedZero)...)
			out = append(out, textEnd...)
		}
	}
	return string(out), true
}

// Back answers the tuple whose key that is; nothing and false, if there is
// none.
func Back(key string) ([]api.Val, bool) {
	return cutAll(key, cutKeyed)
}

// cutKeyed cuts a value off a tuple's key.
func cutKeyed(s string) (api.Val, string, bool) {
	kind, body := int(s[0])-1, s[1:]
	switch kind {
	case api.Null:
		return api.Val{}, body, true
	case api.Int:
		n, rest, ok := cutNumber(body)
		return api.Val{Kind: kind, N: int64(n ^ signBit)}, rest, ok
	case api.Bool:
		n, rest, ok := cutBool(body)
		return api.Val{Kind: kind, N: n}, rest, ok
	case api.Text, api.Bytes:
		text, rest, ok := cutMarked(body)
		return api.Val{Kind: kind, S: text}, rest, ok
	}
	return api.Val{}, "", false
}

// cutMarked cuts off a text whose bytes 0 are marked, with its end.
func cutMarked(s string) (text, rest string, ok bool) {
	var out []byte
	for s != "" && len(out) <= api.MaxText {
		switch {
		case strings.HasPrefix(s, textEnd):
			return string(out), s[len(textEnd):], true
		case strings.HasPrefix(s, markedZero):
			out, s = append(out, 0), s[len(markedZero):]
		case s[0] == 0:
			return "", "", false
		default:
			out, s = append(out, s[0]), s[1:]
		}
	}
	return "", "", false
}
