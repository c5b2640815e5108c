package jobj

import (
	"slices"
	"strconv"
	"strings"

	"onionskin/api"
	"onionskin/json"
)

// Set is the object l, in which the value of that Key is v, at its place or behind all others; none, if one of them or what is made is not right.
func Set(l []api.Value, key string, v []api.Value) []api.Value {
	if !isObject(l) || !json.Right(v) {
		return nil
	}
	count, at := l[0].Count, Get(l, 0, key)
	end := json.End(l, at)
	if at == noPlace {
		count, at, end = count+1, len(l), len(l)
	}
	out := slices.Concat(l[:at], v, l[end:])
	out[0].Count, out[at].Key = count, key
	return ifRight(out)
}

// Drop is the object l without the value of that Key; l, if there is none; none, if l is no right object.
func Drop(l []api.Value, key string) []api.Value {
	if !isObject(l) {
		return nil
	}
	at := Get(l, 0, key)
	if at == noPlace {
		return slices.Clone(l)
	}
	out := slices.Concat(l[:at], l[json.End(l, at):])
	out[0].Count--
	return out
}

// Text is the string s, in which each byte that is none of a right character is U+FFFD.
func Text(s string) []api.Value {
	var b strings.Builder
	for _, r := range s {
		b.WriteRune(r)
	}
	return []api.Value{{Kind: api.JsonString, Text: b.String()}}
}

// Int is the number n.
func Int(n int) []api.Value {
	return []api.Value{{Kind: api.JsonNumber, Text: strconv.Itoa(n)}}
}

// List is the list of the rows; none, if one of them or what is made is not right.
func List(vs ...[]api.Value) []api.Value {
	out := []api.Value{{Kind: api.JsonList, Count: len(vs)}}
	for _, v := range vs {
		// Each is asked by itself, as rows that are not right can be so together; and no more is laid than may be.
		if len(v) > api.MaxValues-len(out) || !json.Right(v) {
			return nil
		}
		out = append(out, v...)
	}
	return ifRight(out)
}

// Object is the object of the rows, the k-th of which has the k-th of the keys; none, if one of them or what is made is not right, or the keys are not as many.
func Object(keys []string, vs ...[]api.Value) []api.Value {
	out := List(vs...)
	if len(out) == 0 || len(keys) != len(vs) {
		return nil
	}
	out[0].Kind = api.JsonObject
	at := 1
	for k, v := range vs {
		out[at].Key = keys[k]
		at += len(v)
	}
	return ifRight(out)
}

// isObject is whether l is a right row that is an object.
func isObject(l []api.Value) bool {
	return json.Right(l) && l[0].Kind == api.JsonObject
}

// ifRight is l, if that is a right row, else none.
func ifRight(l []api.Value) []api.Value {
	if !json.Right(l) {
		return nil
	}
	return l
}
