package json_test

import (
	"bytes"
	stdjson "encoding/json"
	"fmt"
	"regexp"
	"slices"
	"sort"
	"strings"
	"testing"
	"unicode/utf8"

	"onionskin/api"
	"onionskin/json"
)

// A row is short for what the calls take and answer.
type row = []api.Value

// word is the row of null, true or false.
func word(kind int) row { return row{{Kind: kind}} }

// number is the row of a number's text.
func number(text string) row { return row{{Kind: api.JsonNumber, Text: text}} }

// text is the row of a string that means s.
func text(s string) row { return row{{Kind: api.JsonString, Text: s}} }

// list is the row of a list of rows.
func list(l ...row) row {
	return append(row{{Kind: api.JsonList, Count: len(l)}}, slices.Concat(l...)...)
}

// keyed is a row that has that Key.
func keyed(key string, l row) row {
	l = slices.Clone(l)
	l[0].Key = key
	return l
}

// object is the row of an object of rows that have their Keys.
func object(l ...row) row {
	return append(row{{Kind: api.JsonObject, Count: len(l)}}, slices.Concat(l...)...)
}

// sample is JSON without blanks, in the one form in which it is printed, and its row.
type sample struct {
	text string
	row  row
}

// samples are values of each kind, none of which has others.
func samples() []sample {
	return []sample{
		{"null", word(api.JsonNull)}, {"true", word(api.JsonTrue)}, {"false", word(api.JsonFalse)},
		{"0", number("0")}, {"-0", number("-0")}, {"-12.50e+3", number("-12.50e+3")}, {"1E5", number("1E5")}, {"123456789012345678901234567890", number("123456789012345678901234567890")},
		{`""`, text("")}, {`"a"`, text("a")}, {`"\"\\/\b\f\n\r\t\u0000\u001f"`, text("\"\\/\b\f\n\r\t\x00\x1f")}, {"\"\u00e4\u20ac\U0001f600\ufffd\x7f\"", text("\u00e4\u20ac\U0001f600\ufffd\x7f")}, {`"[{null,:}]"`, text("[{null,:}]")},
		{"[]", list()}, {"{}", object()},
	}
}

// mixed are values of which some have others.
func mixed() []sample {
	l := samples()
	for k, s := range samples() {
		l = append(l, sample{"[" + s.text + "]", list(s.row)}, sample{`{"k":` + s.text + "}", object(keyed("k", s.row))})
		next := samples()[(k+4)%len(samples())]
		l = append(l, sample{"[" + s.text + "," + next.text + "," + s.text + "]", list(s.row, next.row, s.row)})
		l = append(l, sample{`{"b":` + s.text + `,"":` + next.text + `,"a":` + s.text + "}", object(keyed("b", s.row), keyed("", next.row), keyed("a", s.row))})
	}
	ones := number("1")
	return append(l,
		sample{"[[],[1],[[]]]", list(list(), list(ones), list(list()))},
		sample{`{"a":{},"b":{"a":{"a":1}},"":{"":{"":{}}}}`, object(keyed("a", object()), keyed("b", object(keyed("a", object(keyed("a", ones))))), keyed("", object(keyed("", object(keyed("", object()))))))},
		sample{`[{"z":[1,{"y":[],"x":[{}]}],"a":{"b":[[1],1]}},[]]`, list(object(keyed("z", list(ones, object(keyed("y", list()), keyed("x", list(object()))))), keyed("a", object(keyed("b", list(list(ones), ones))))), list())},
		sample{"{\"\\\"\\n\":[true],\"\u00e4\":\"\u00e4\",\"\u20ac\":{\"\U0001f600\":null},\"\U0001f600\":\"\\\\\"}", object(keyed("\"\n", list(word(api.JsonTrue))), keyed("\u00e4", text("\u00e4")), keyed("\u20ac", object(keyed("\U0001f600", word(api.JsonNull)))), keyed("\U0001f600", text("\\")))},
		sample{`{"a":"a","A":"A","ab":[],"aa":{}}`, object(keyed("a", text("a")), keyed("A", text("A")), keyed("ab", list()), keyed("aa", object()))},
	)
}

// stringForm is a string's text, and numberForm the longest number's text.
var stringForm = regexp.MustCompile(`^"(?:[^"\\\x00-\x1f]|\\["\\/bfnrt]|\\u(?:[0-9a-ce-fA-CE-F][0-9a-fA-F]{3}|[dD][0-7][0-9a-fA-F]{2}|[dD][89abAB][0-9a-fA-F]{2}\\u[dD][c-fC-F][0-9a-fA-F]{2}))*"`)
var numberForm = func() *regexp.Regexp {
	form := regexp.MustCompile(`^-?(?:0|[1-9][0-9]*)(?:\.[0-9]+)?(?:[eE][+-]?[0-9]+)?`)
	form.Longest()
	return form
}()
var wordForm = regexp.MustCompile(`^(?:null|true|false)`)

// modelText is what the string's text means with which s begins, and that text; none, if there is none.
func modelText(s string) (string, string) {
	token := stringForm.FindString(s)
	if token == "" || !utf8.ValidString(token) {
		return "", ""
	}
	var out string
	if err := stdjson.Unmarshal([]byte(token), &out); err != nil {
		panic(err)
	}
	return out, token
}

// modelValue is the value with which s begins, as if it had no others, and the bytes that tell so much.
func modelValue(s string) (api.Value, string) {
	switch s[0] {
	case 'n', 't', 'f':
		token := wordForm.FindString(s)
		return api.Value{Kind: map[string]int{"null": api.JsonNull, "true": api.JsonTrue, "false": api.JsonFalse}[token]}, token
	case '"':
		mean, token := modelText(s)
		return api.Value{Kind: api.JsonString, Text: mean}, token
	case '[':
		return api.Value{Kind: api.JsonList}, "["
	case '{':
		return api.Value{Kind: api.JsonObject}, "{"
	}
	token := numberForm.FindString(s)
	return api.Value{Kind: api.JsonNumber, Text: token}, token
}

// modelParse is Parse, told by other hands: sign by sign, with a stack of what is open.
func modelParse(s string) (row, api.Errno) {
	type group struct {
		at     int
		object bool
		keys   []string
	}
	var l row
	var open []*group
	var key string
	state := "value"
	for {
		for s != "" && (s[0] == 0x20 || s[0] == 9 || s[0] == 10 || s[0] == 13) {
			s = s[1:]
		}
		if s == "" {
			if state == "behind" && len(open) == 0 {
				return l, api.OK
			}
			return nil, api.ErrForm
		}
		top := &group{}
		if len(open) > 0 {
			top = open[len(open)-1]
		}
		c, inside := s[0], len(open) > 0 && state == "behind"
		switch {
		case c == ']' && (state == "first value" || inside && !top.object), c == '}' && (state == "first key" || inside && top.object):
			open, state, s = open[:len(open)-1], "behind", s[1:]
		case c == ',' && inside:
			state, s = map[bool]string{false: "value", true: "key"}[top.object], s[1:]
		case c == ':' && state == "colon":
			state, s = "value", s[1:]
		case c == '"' && (state == "key" || state == "first key"):
			mean, token := modelText(s)
			if token == "" {
				return nil, api.ErrForm
			}
			if slices.Contains(top.keys, mean) {
				return nil, api.ErrTwice
			}
			top.keys = append(top.keys, mean)
			key, state, s = mean, "colon", s[len(token):]
		case strings.IndexByte(`ntf"[{-0123456789`, c) >= 0 && (state == "value" || state == "first value"):
			if len(open) >= 50 || len(l)+1 == 5001 {
				return nil, api.ErrFull
			}
			v, token := modelValue(s)
			if token == "" {
				return nil, api.ErrForm
			}
			if len(open) > 0 {
				l[top.at].Count++
			}
			v.Key, key = key, ""
			l = append(l, v)
			state, s = "behind", s[len(token):]
			if c == '[' || c == '{' {
				open = append(open, &group{at: len(l) - 1, object: c == '{'})
				state = map[byte]string{'[': "first value", '{': "first key"}[c]
			}
		default:
			return nil, api.ErrForm
		}
	}
}

// modelEnd is End, told by other hands. (Not of rows that are very deep.)
func modelEnd(l row, at int) int {
	if at < 0 || at >= len(l) || l[at].Count < 0 {
		return -1
	}
	next := at + 1
	if l[at].Kind == api.JsonList || l[at].Kind == api.JsonObject {
		for range l[at].Count {
			if next = modelEnd(l, next); next < 0 {
				return -1
			}
		}
	}
	return next
}

// modelRight is Right, told by other hands: value by value, with a stack of what is open.
func modelRight(l row) bool {
	type group struct {
		left   int
		object bool
		keys   map[string]bool
	}
	var open []*group
	for k, v := range l {
		for len(open) > 0 && open[len(open)-1].left == 0 {
			open = open[:len(open)-1]
		}
		inObject := false
		if len(open) > 0 {
			top := open[len(open)-1]
			top.left--
			if inObject = top.object; inObject {
				if top.keys[v.Key] || !utf8.ValidString(v.Key) {
					return false
				}
				top.keys[v.Key] = true
			}
		} else if k > 0 {
			return false
		}
		if !inObject && v.Key != "" || len(open) > 49 || k > 4999 {
			return false
		}
		isGroup := v.Kind == api.JsonList || v.Kind == api.JsonObject
		switch {
		case v.Kind < 0 || v.Kind > 6 || v.Count < 0 || !isGroup && v.Count > 0:
			return false
		case v.Kind == api.JsonNumber:
			if v.Text == "" || numberForm.FindString(v.Text) != v.Text {
				return false
			}
		case v.Kind == api.JsonString:
			if !utf8.ValidString(v.Text) {
				return false
			}
		case v.Text != "":
			return false
		}
		if isGroup {
			open = append(open, &group{v.Count, v.Kind == api.JsonObject, map[string]bool{}})
		}
	}
	for _, g := range open {
		if g.left > 0 {
			return false
		}
	}
	return len(l) > 0
}

// modelQuote is a string's text, told by other hands.
func modelQuote(s string) string {
	var out strings.Builder
	out.WriteString("\"")
	for _, r := range s {
		switch {
		case r == '"' || r == '\\':
			out.WriteString("\\" + string(r))
		case strings.ContainsRune("\b\t\n\f\r", r):
			out.WriteString(map[rune]string{8: "\\b", 9: "\\t", 0xa: "\\n", 0xc: "\\f", 0xd: "\\r"}[r])
		case r < 0x20:
			fmt.Fprintf(&out, "\\u%04x", r)
		default:
			out.WriteRune(r)
		}
	}
	return out.String() + "\""
}

// modelPrint is the JSON of a right row, and modelSort the row sorted, both told by other hands.
func modelPrint(l row) string {
	switch v := l[0]; v.Kind {
	case api.JsonNumber:
		return v.Text
	case api.JsonString:
		return modelQuote(v.Text)
	case api.JsonList, api.JsonObject:
		var parts []string
		for at := 1; at < len(l); at = modelEnd(l, at) {
			part := modelPrint(l[at:modelEnd(l, at)])
			if v.Kind == api.JsonObject {
				part = modelQuote(l[at].Key) + ":" + part
			}
			parts = append(parts, part)
		}
		if v.Kind == api.JsonList {
			return "[" + strings.Join(parts, ",") + "]"
		}
		return "{" + strings.Join(parts, ",") + "}"
	default:
		return map[int]string{api.JsonNull: "null", api.JsonTrue: "true", api.JsonFalse: "false"}[v.Kind]
	}
}

func modelSort(l row) row {
	out := row{l[0]}
	var keys []string
	byKey := map[string]row{}
	for at := 1; at < len(l); at = modelEnd(l, at) {
		part := modelSort(l[at:modelEnd(l, at)])
		if l[0].Kind == api.JsonObject {
			keys = append(keys, l[at].Key)
			byKey[l[at].Key] = part
		} else {
			out = append(out, part...)
		}
	}
	sort.Strings(keys)
	for _, key := range keys {
		out = append(out, byKey[key]...)
	}
	return out
}

// othersRow is the row of right JSON, told by the tokens that the language's own library reads.
func othersRow(s string) row {
	d := stdjson.NewDecoder(strings.NewReader(s))
	d.UseNumber()
	var l row
	var open []int
	key, isKey := "", false
	for {
		token, err := d.Token()
		if err != nil {
			return l
		}
		if token == stdjson.Delim(']') || token == stdjson.Delim('}') {
			open = open[:len(open)-1]
			isKey = len(open) > 0 && l[open[len(open)-1]].Kind == api.JsonObject
			continue
		}
		if isKey {
			key, isKey = token.(string), false
			continue
		}
		v := api.Value{Key: key}
		switch x := token.(type) {
		case bool:
			v.Kind = map[bool]int{true: api.JsonTrue, false: api.JsonFalse}[x]
		case stdjson.Number:
			v.Kind, v.Text = api.JsonNumber, x.String()
		case string:
			v.Kind, v.Text = api.JsonString, x
		case stdjson.Delim:
			v.Kind = map[stdjson.Delim]int{'[': api.JsonList, '{': api.JsonObject}[x]
		}
		if len(open) > 0 {
			l[open[len(open)-1]].Count++
		}
		l = append(l, v)
		if v.Kind >= api.JsonList {
			open = append(open, len(l)-1)
		}
		key, isKey = "", len(open) > 0 && l[open[len(open)-1]].Kind == api.JsonObject
	}
}

// brief is what tells of a text, or of a row; where it is long, of its beginning and its end.
func brief(x any) string {
	s := fmt.Sprintf("%+q", fmt.Sprintf("%+v", x))
	if len(s) > 400 {
		s = s[:200] + " .. " + s[len(s)-200:]
	}
	return s
}

// parses tells t where s is not parsed as that row.
func parses(t *testing.T, s string, want row) {
	t.Helper()
	if got, err := json.Parse([]byte(s)); !slices.Equal(got, want) || err != api.OK {
		t.Errorf("%s: %s, %v, not %s", brief(s), brief(got), err, brief(want))
	}
}

// refused tells t where s is not refused by that error, or where a row is told beside it.
func refused(t *testing.T, s string, want api.Errno) {
	t.Helper()
	if got, err := json.Parse([]byte(s)); len(got) != 0 || err != want {
		t.Errorf("%s: %s, %v, not %v", brief(s), brief(got), err, want)
	}
}

// asModel tells t where s is not parsed as other hands parse it.
func asModel(t *testing.T, s string) {
	t.Helper()
	want, err := modelParse(s)
	if got, e := json.Parse([]byte(s)); !slices.Equal(got, want) || e != err {
		t.Errorf("%s: %s, %v, not %s, %v", brief(s), brief(got), e, brief(want), err)
	}
}

// right tells t where a row is not right, or not printed as that text, or its End is not behind it.
func right(t *testing.T, l row, want string) {
	t.Helper()
	if !json.Right(l) {
		t.Errorf("%s is not right", brief(l))
	}
	if got, ok := json.Print(l); string(got) != want || !ok {
		t.Errorf("%s: %s, %t, not %s", brief(l), brief(string(got)), ok, brief(want))
	}
	if at := json.End(l, 0); at != len(l) {
		t.Errorf("%s ends at %d", brief(l), at)
	}
}

// wrong tells t where a row is right, or is printed, or sorted.
func wrong(t *testing.T, l row) {
	t.Helper()
	if json.Right(l) {
		t.Errorf("%s is right", brief(l))
	}
	if got, ok := json.Print(l); len(got) != 0 || ok {
		t.Errorf("%s: %s, %t", brief(l), brief(string(got)), ok)
	}
	if got := json.Sort(l); len(got) != 0 {
		t.Errorf("%s is sorted: %s", brief(l), brief(got))
	}
}

// sorts tells t where a row is not sorted as want.
func sorts(t *testing.T, l, want row) {
	t.Helper()
	if got := json.Sort(l); !slices.Equal(got, want) {
		t.Errorf("%s: %s, not %s", brief(l), brief(got), brief(want))
	}
}

// rowAsModel tells t where of a row not all is told that other hands tell.
func rowAsModel(t *testing.T, l row) {
	t.Helper()
	if modelRight(l) {
		right(t, l, modelPrint(l))
		parses(t, modelPrint(l), l)
		sorts(t, l, modelSort(l))
	} else {
		wrong(t, l)
	}
	for at := -1; at <= len(l); at++ {
		ends(t, l, at, modelEnd(l, at))
	}
}

// ends tells t where the row at that place does not end at want.
func ends(t *testing.T, l row, at, want int) {
	t.Helper()
	if got := json.End(l, at); got != want {
		t.Errorf("%s at %d: %d, not %d", brief(l), at, got, want)
	}
}

// both tells t where a text is not parsed as that row, or not printed again as it was.
func both(t *testing.T, s sample) {
	t.Helper()
	parses(t, s.text, s.row)
	right(t, s.row, s.text)
}

// asOthers tells t where a text is JSON here and not there, or is another row there.
func asOthers(t *testing.T, s string) {
	t.Helper()
	got, err := json.Parse([]byte(s))
	is := stdjson.Valid([]byte(s))
	// Bytes that are not right UTF-8, and halves of pairs, are read there.
	strict := utf8.ValidString(s) && !bytes.Contains(bytes.ToLower([]byte(s)), []byte(`\ud`))
	if err == api.OK && (!is || !slices.Equal(got, othersRow(s))) || err == api.ErrForm && is && strict {
		t.Errorf("%s: %s, %v; others: %t, %s", brief(s), brief(got), err, is, brief(othersRow(s)))
	}
}
