package want_test

import (
	"reflect"
	"strings"
	"testing"

	"haversack/api"
	"haversack/want"
)

// accept holds that a text is read as a constraint, which is Right, and whose text is read as it again (P8.2).
func accept(t *testing.T, s string, expected api.Want) {
	t.Helper()
	w, err := want.Parse(s)
	if err != nil || !equal(w, expected) {
		t.Errorf("Parse(%q) answers %v, %v, not %v", s, w, err, expected)
		return
	}
	if !want.Right(w) {
		t.Errorf("Parse(%q) answers %v, which isn't Right", s, w)
	}
	text := want.Text(w)
	if again, err := want.Parse(text); err != nil || !equal(again, w) {
		t.Errorf("the text of what %q is read as, %q, is read as %v, %v", s, text, again, err)
	}
	if text != modelText(w) {
		t.Errorf("Text(%v) answers %q", w, text)
	}
}

// refuse holds that a text is answered by an error, and by nothing else.
func refuse(t *testing.T, s string, expected error) {
	t.Helper()
	if w, err := want.Parse(s); err != expected || !reflect.ValueOf(w).IsZero() {
		t.Errorf("Parse(%q) answers %v, %v, not %v", s, w, err, expected)
	}
}

// check holds Parse against the model.
func check(t *testing.T, s string) {
	t.Helper()
	if expected, err := modelParse(s); err != nil {
		refuse(t, s, err)
	} else {
		accept(t, s, expected)
	}
}

func TestP8_1Parse(t *testing.T) {
	for _, x := range []struct {
		s    string
		want api.Want
	}{
		{">=1.2,<2|3.*", rows(row(term(">=", "1.2"), term("<", "2")), row(term("=", "3")))},
		// "*" alone
		{"*", rows(row(all()))},
		{"*,*", rows(row(all(), all()))},
		{"*|*", rows(row(all()), row(all()))},
		{"*,1|2,*", rows(row(all(), term("==", "1")), row(term("==", "2"), all()))},
		// without an operator
		{"1", rows(row(term("==", "1")))},
		{"a", rows(row(term("==", "a")))},
		{"1.2.3", rows(row(term("==", "1.2.3")))},
		{"1!2.a_b-3+l.4", rows(row(term("==", "1!2.a.b.3+l.4")))},
		{"1.0RC1", rows(row(term("==", "1.0rc1")))},
		{"1+a", rows(row(term("==", "1+a")))},
		// "*" and ".*" behind
		{"1*", rows(row(term("=", "1")))},
		{"1.*", rows(row(term("=", "1")))},
		{"1.2*", rows(row(term("=", "1.2")))},
		{"1.2.*", rows(row(term("=", "1.2")))},
		{"a*", rows(row(term("=", "a")))},
		{"Dev.*", rows(row(term("=", "dev")))},
		{"2!1.0a1*", rows(row(term("=", "2!1.0a1")))},
		{"1.0.*", rows(row(term("=", "1.0")))},
		// operators
		{"==1", rows(row(term("==", "1")))},
		{"==1+a", rows(row(term("==", "1+a")))},
		{"!=1", rows(row(term("!=", "1")))},
		{"!=1!2+b", rows(row(term("!=", "1!2+b")))},
		{">=1", rows(row(term(">=", "1")))},
		{">=1+1", rows(row(term(">=", "1+1")))},
		{"<=1", rows(row(term("<=", "1")))},
		{"<=1+1", rows(row(term("<=", "1+1")))},
		{">1", rows(row(term(">", "1")))},
		{">1+1", rows(row(term(">", "1+1")))},
		{"<1", rows(row(term("<", "1")))},
		{"<1+1", rows(row(term("<", "1+1")))},
		{"~=1.0", rows(row(term("~=", "1.0")))},
		{"~=1!a.b", rows(row(term("~=", "1!a.b")))},
		{"~=1.2.3", rows(row(term("~=", "1.2.3")))},
		{"=1", rows(row(term("=", "1")))},
		{"=1.2", rows(row(term("=", "1.2")))},
		{"=1*", rows(row(term("=", "1")))},
		{"=1.*", rows(row(term("=", "1")))},
		{"=1!1.2a.*", rows(row(term("=", "1!1.2a")))},
		// rows and terms in order
		{"3,1,2", rows(row(term("==", "3"), term("==", "1"), term("==", "2")))},
		{"3|1|2", rows(row(term("==", "3")), row(term("==", "1")), row(term("==", "2")))},
		{"1,1|1", rows(row(term("==", "1"), term("==", "1")), row(term("==", "1")))},
		{">1,<2,!=1.5|*|=4,~=5.0", rows(row(term(">", "1"), term("<", "2"), term("!=", "1.5")), row(all()), row(term("=", "4"), term("~=", "5.0")))},
		// versions of 40 bytes, and of 15 digits
		{">=" + strings.Repeat("a", 40), rows(row(term(">=", strings.Repeat("a", 40))))},
		{strings.Repeat("1.", 19) + "10", rows(row(term("==", strings.Repeat("1.", 19)+"10")))},
		{strings.Repeat("b", 40) + "*", rows(row(term("=", strings.Repeat("b", 40))))},
		{"=" + strings.Repeat("b", 40) + ".*", rows(row(term("=", strings.Repeat("b", 40))))},
		{"999999999999999!999999999999999.*", rows(row(term("=", "999999999999999!999999999999999")))},
	} {
		accept(t, x.s, x.want)
		check(t, x.s)
	}
}

func TestP8_1ParseRefuses(t *testing.T) {
	for _, s := range []string{
		// no bytes, and what has no term in front, in the middle, at the end
		"", ",", "|", ",,", "||", ",|", "|,", ",1", "1,", "1,,2", "|1", "1|", "1||2", "1,|2", "1|,2", ",*", "*,", "|*", "*|", "*||*", "*,,*",
		// operators, and nothing behind
		"==", "!=", ">=", "<=", ">", "<", "~=", "=", "1,>=", ">=,1", "<|1", "1|=",
		// what isn't one, or more than one
		"!", "~", "!1", "~1.2", "===1", "=>1", "=<1", "=!1", "=~1.2", "!==1", ">==1", "<==1", "~==1.2", ">>1", "<<1", "<>1", "><1", "!!=1", "==>1", ">=>1", "=!=1", "^1", "^=1", "1=", "1>=", "1==2", "1>=2", ">=1<2", ">=1>=2", "v 1", "&1", "1&2", "!=!1", "1!", ">=!1", "=1!",
		// "*" and ".*"
		".*", "**", "*.*", "*1", "1**", "1.**", "1.*.*", "1*.*", "1.*1", "1.*.1", "1*1", ".1*", "1..*", "1_*", "1-*", "1_.*", "*.", "*,.*", "1!*", "1!.*", "1+*", "1+.*",
		"=*", "=.*", "==*", "==.*", "!=*", ">=*", "<=*", ">*", "<*", "~=*", ">=.*", "=**", "=*1", "*=", "*>1", "1*>1",
		"==1*", "==1.*", "!=1*", "!=1.*", ">=1*", ">=1.*", "<=1*", "<=1.*", ">1*", ">1.*", "<1*", "<1.*", "~=1.2*", "~=1.2.*", "=1**", "=1.*.*", "=1.*2",
		// what may not stand behind "=" and "~="
		"=1+a", "=1.2+0", "=1+a*", "=1+a.*", "1+a*", "1+a.*", "1.2+3*", "=1!2+b", "~=1", "~=a1b2", "~=1!2", "~=1+2", "~=1+2.3", "~=1.2+3", "~=1!1.2.3+b", "~=1*", "~=1.*",
		// blanks, and other bytes
		" ", " 1", "1 ", ">= 1", ">=1 ", " >=1", "> =1", "1, 2", "1 ,2", "1 |2", "1| 2", "* ", " *", "1 .*", "1. *", "1 *", "= 1", "\t1", "1\n", "1\r", "1\x00", "\xff", "é", ">=1.é", "\u22651", "1\uff0c2", "1;2", "(1)", "[1]", "'1'", "\"1\"", "1:2", "1/2", "1\\2",
		// versions that aren't
		".", "1..2", "-1", "1.", ">=.1", "1+", "+1", "1+2+3", "1!2!3", "a!1", ">=1.0~rc1", "9999999999999999", ">=0000000000000001", strings.Repeat("a", 41), ">" + strings.Repeat("a", 41), strings.Repeat("a", 41) + "*", "=" + strings.Repeat("1.", 20) + "1.*",
		strings.Repeat("1", 1<<20), strings.Repeat("*", 1<<20), strings.Repeat("=", 1<<20), strings.Repeat(">", 1<<20) + "1",
		// one of many
		"1,2,3,>=,5", "1|2|x y|4", "*,*,*,**", "~=1,=1+a", "1,~=1", "=1+a|*", "*|*,~=1|*",
	} {
		refuse(t, s, api.ErrVersion)
		if _, err := modelParse(s); err != api.ErrVersion {
			t.Errorf("the model answers %v to %q", err, s)
		}
	}
}

func TestP8_1ParseOfManyTerms(t *testing.T) {
	for _, piece := range []string{"*", "1", ">=1.2", "=a", "3.*"} {
		for many := 1; many <= 20; many++ {
			list := strings.Repeat(piece+",", many-1) + piece
			for at := range len(list) + 1 { // a row ends in the place of each ","
				s := list
				if at < len(list) && list[at] == ',' {
					s = list[:at] + "|" + list[at+1:]
				}
				check(t, s)
				check(t, strings.ReplaceAll(s, ",", "|"))
				_, err := want.Parse(s)
				if (err == nil) != (many <= 16) {
					t.Errorf("%d terms are answered by %v", many, err)
				}
			}
		}
	}
}

// That there are too many terms comes ahead of what is wrong with one, also where a term is empty.
func TestP8_1ParseOfTooManyTermsAndOtherErrors(t *testing.T) {
	for _, between := range []string{",", "|", ",|", "|,,"} {
		for _, piece := range []string{"", "*", "1", "~=1", "=1+a", ">=", "x y", "=*", "\xff"} {
			for many := range 40 {
				s := strings.Repeat(piece+between, many)
				for _, behind := range []string{"", "1", "?"} {
					check(t, s+behind)
				}
			}
		}
	}
	for _, s := range []string{
		strings.Repeat(",", 16), strings.Repeat("|", 16), strings.Repeat(",|", 8), strings.Repeat("|", 7) + strings.Repeat(",", 9),
		strings.Repeat(",", 1<<16), strings.Repeat("|", 1<<16), strings.Repeat("1|", 1<<16), strings.Repeat("*,", 16), "~=1" + strings.Repeat(",*", 16), strings.Repeat("*,", 16) + ">",
	} {
		refuse(t, s, api.ErrSpec)
	}
	for _, s := range []string{strings.Repeat(",", 15), strings.Repeat("|", 15), strings.Repeat("*,", 15), "~=1" + strings.Repeat(",*", 15), strings.Repeat("*|", 15) + ">"} {
		refuse(t, s, api.ErrVersion)
	}
}

func TestP8_1ParseShort(t *testing.T) {
	for _, pieces := range []struct {
		alphabet string
		most     int
	}{{"1a.*,|=<>~!+ ", 4}, {"=<>~!1", 5}, {"1.*,|", 6}, {"1+.=*", 6}} {
		short(pieces.most, []byte(pieces.alphabet), func(s []byte) { check(t, string(s)) })
	}
	short(3, []string{"*", ".*", "1", "1.2", "a", "+b", "1!", "=", "==", "~=", ">", ",", "|"}, func(list []string) { check(t, strings.Join(list, "")) })
}

// Each operator, in front of each version, with each thing behind.
func TestP8_1ParseOfEachOperator(t *testing.T) {
	for _, op := range append([]string{"", "!", "~", "===", "=>", "=<", "<>", "~~=", "^"}, operators...) {
		for _, text := range []string{"", "1", "1.0", "a", "1!2", "1!2.3", "1+a", "1.2+b.3", "2!1.2+c", "1.2.3", "*", ".", "1.", ".1"} {
			for _, behind := range []string{"", "*", ".*", "**", ".**", "..*", ".", " ", "*.", "*1", "=", ",*", "|*"} {
				check(t, op+text+behind)
				check(t, "*,"+op+text+behind)
				check(t, op+text+behind+"|>=1")
			}
		}
	}
}

// frames are texts of every shape: one of them is changed at one place.
var frames = []string{"*", "1", "==1", "!=1.a", ">=1", "<=1", ">1", "<1", "~=1.2", "=1", "=1.*", "1*", "1.2.*", "1!2+a", ">=1.2,<2|3.*", "*|*,~=a.b|=c*", strings.Repeat("1,", 15) + "1", strings.Repeat("b", 40)}

func TestP8_1ParseEachByte(t *testing.T) {
	for c := range 256 {
		b := string([]byte{byte(c)})
		check(t, b)
		for _, s := range frames {
			for at := range len(s) + 1 {
				check(t, s[:at]+b+s[at:])
				check(t, s[:at]+b+b+s[at:])
				if at < len(s) {
					check(t, s[:at]+b+s[at+1:])
				}
			}
		}
	}
}

func TestP8_1ParseSizes(t *testing.T) {
	for size := range 45 {
		for _, piece := range []string{"1", "a", "1.", "a1"} {
			s := strings.Repeat(piece, 45)[:size]
			for _, front := range append([]string{"", "*,"}, operators...) {
				for _, behind := range []string{"", "*", ".*", "|*", "+1"} {
					check(t, front+s+behind)
				}
			}
		}
	}
}

func TestP8_1Text(t *testing.T) {
	for _, x := range []struct {
		w    api.Want
		text string
	}{
		{rows(row(all())), "*"},
		{rows(row(all(), all()), row(all())), "*,*|*"},
		{rows(row(term("==", "1.0"))), "==1.0"},
		{rows(row(term("!=", "1!1.0+a.b"))), "!=1!1.0+a.b"},
		{rows(row(term(">=", "1.2"))), ">=1.2"},
		{rows(row(term("<=", "1.0rc1"))), "<=1.rc1"},
		{rows(row(term(">", "01.02"))), ">1.2"},
		{rows(row(term("<", "0.A_b-3"))), "<0.a.b.3"},
		{rows(row(term("~=", "1.2"))), "~=1.2"},
		{rows(row(term("=", "3"))), "=3"},
		{rows(row(term("=", "0")), row(term("=", "0"))), "=0|=0"},
		{rows(row(term(">=", "1.2"), term("<", "2")), row(term("=", "3"))), ">=1.2,<2|=3"},
		{rows(row(term(">", "1"), all(), term("!=", "2")), row(all()), row(term("==", "7"), term("~=", "7.0.0"))), ">1,*,!=2|*|==7,~=7.0.0"},
		{rows(row(term("==", "999999999999999!999999999999999"))), "==999999999999999!999999999999999"},
	} {
		was := copied(x.w)
		if text := want.Text(x.w); text != x.text {
			t.Errorf("Text(%v) answers %q, not %q", x.w, text, x.text)
		}
		if !equal(x.w, was) {
			t.Errorf("Text changed %v", was)
		}
		accept(t, x.text, x.w)
	}
}

func TestP8_2TextOfWhatWasRead(t *testing.T) {
	for s, text := range map[string]string{
		"*":                             "*",
		"1":                             "==1",
		"==1":                           "==1",
		"1*":                            "=1",
		"1.*":                           "=1",
		"=1":                            "=1",
		"=1*":                           "=1",
		"=1.*":                          "=1",
		"01.002":                        "==1.2",
		"1.0RC1*":                       "=1.rc1",
		"~=1_0":                         "~=1.0",
		">=1-2-3+L":                     ">=1.2.3+l",
		"0!1,<2":                        "==1,<2",
		"1|2,3|*":                       "==1|==2,==3|*",
		">=1.2,<2|3.*":                  ">=1.2,<2|=3",
		"!=00!0a":                       "!=a",
		"1,1,1|1,1|1":                   "==1,==1,==1|==1,==1|==1",
		strings.Repeat("1*,", 15) + "1": strings.Repeat("=1,", 15) + "==1",
	} {
		w, err := want.Parse(s)
		if err != nil || want.Text(w) != text {
			t.Errorf("the text of what %q is read as is %q (%v), not %q", s, want.Text(w), err, text)
		}
		again, err := want.Parse(text)
		if err != nil || !equal(w, again) {
			t.Errorf("%q is read as %v, %q as %v", s, w, text, again)
		}
	}
}

func TestP8_1ParseAnswersTheCallersOwn(t *testing.T) {
	for _, s := range append(frames, "1.2.3+4.5,1.2.3+4.5|1.2.3+4.5,*", strings.Repeat(">=1a2.3,", 8)+strings.Repeat("<2|", 7)+"~=1.2.3") {
		first, err := want.Parse(s)
		if err != nil {
			t.Fatalf("Parse(%q) answers %v", s, err)
		}
		second, _ := want.Parse(s)
		was := copied(first)
		apart(t, first, second)
		spoil(first)
		if !equal(second, was) {
			t.Errorf("%v is spoiled by what was done to another answer", second)
		}
		accept(t, s, was)
	}
}
