package cell

import (
	"strings"

	"pleach/api"
)

// intSize is how many bytes an int has, in bytes and in keys.
const intSize = 8

// Write answers the tuple's bytes; "" and false of what is no tuple.
func Write(l []api.Val) (string, bool) {
	if !isTuple(l) {
		return "", false
	}
	var out []byte
	for _, v := range l {
		out = append(out, byte(v.Kind))
		switch v.Kind {
		case api.Int:
			out = appendNumber(out, uint64(v.N))
		case api.Bool:
			out = append(out, byte(v.N))
		case api.Text, api.Bytes:
			out = append(out, byte(len(v.S)>>8), byte(len(v.S)))
			out = append(out, v.S...)
		}
	}
	return string(out), true
}

// Read answers the tuple whose bytes s is; nothing and false, if there is none.
func Read(s string) ([]api.Val, bool) {
	return cutAll(s, cutWritten)
}

// cutAll reads s to its end, value by value: cut answers the first value of
// what it is given, which is never empty, and what is behind that value.
func cutAll(s string, cut func(string) (api.Val, string, bool)) ([]api.Val, bool) {
	var l []api.Val
	for s != "" {
		v, rest, ok := cut(s)
		if !ok || len(l) == api.MaxVals {
			return nil, false
		}
		l = append(l, v)
		s = rest
	}
	return l, true
}

// cutWritten cuts a value off the bytes of a tuple.
func cutWritten(s string) (api.Val, string, bool) {
	kind, body := int(s[0]), s[1:]
	switch kind {
	case api.Null:
		return api.Val{}, body, true
	case api.Int:
		n, rest, ok := cutNumber(body)
		return api.Val{Kind: kind, N: int64(n)}, rest, ok
	case api.Bool:
		n, rest, ok := cutBool(body)
		return api.Val{Kind: kind, N: n}, rest, ok
	case api.Text, api.Bytes:
		text, rest, ok := cutCounted(body)
		return api.Val{Kind: kind, S: text}, rest, ok
	}
	return api.Val{}, "", false
}

// cutCounted cuts off a text that stands behind its length.
func cutCounted(s string) (text, rest string, ok bool) {
	if len(s) < 2 {
		return "", "", false
	}
	size := int(s[0])<<8 | int(s[1])
	s = s[2:]
	if size > api.MaxText || size > len(s) {
		return "", "", false
	}
	// A copy: a piece of s would keep all of it in memory.
	return strings.Clone(s[:size]), s[size:], true
}

// cutBool knows the bytes 0 and 1 alone: no other one is written.
func cutBool(s string) (n int64, rest string, ok bool) {
	if s == "" || s[0] > 1 {
		return 0, "", false
	}
	return int64(s[0]), s[1:], true
}

// cutNumber cuts off a number of eight bytes, the highest first.
func cutNumber(s string) (n uint64, rest string, ok bool) {
	if len(s) < intSize {
		return 0, "", false
	}
	for i := range intSize {
		n = n<<8 | uint64(s[i])
	}
	return n, s[intSize:], true
}

// appendNumber appends a number in eight bytes, the highest first.
func appendNumber(out []byte, n uint64) []byte {
	for i := range intSize {
		out = append(out, byte(n>>(8*(intSize-1-i))))
	}
	return out
}
