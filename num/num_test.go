package num

import (
	"math"
	"math/big"
	"regexp"
	"slices"
	"strings"
	"testing"

	"pantile/api"
)

const (
	most     = math.MaxUint64
	mostText = "18446744073709551615"
	longText = "18446744073709551616"
)

// numbers are the ends, the first ones of each length in digits and in bits, and their neighbours.
func numbers() []uint64 {
	list := []uint64{0, 5, 42, 1234567890, most}
	for ten := uint64(10); ; ten *= 10 {
		list = append(list, ten-1, ten, ten+1)
		if ten > most/10 {
			break
		}
	}
	for level := range 64 {
		list = append(list, 1<<level-1, 1<<level, 1<<level+1)
	}
	return list
}

// plainNumber follows the chapter's words, digit by digit, in numbers without an end.
func plainNumber(s string) (uint64, api.Code) {
	if s == "" || len(s) > 1 && s[0] == '0' {
		return 0, api.Word
	}
	u := new(big.Int)
	for i := range len(s) {
		if s[i] < '0' || s[i] > '9' {
			return 0, api.Word
		}
		u.Mul(u, big.NewInt(10))
		u.Add(u, big.NewInt(int64(s[i]-'0')))
	}
	if !u.IsUint64() {
		return 0, api.Long
	}
	return u.Uint64(), api.Fine
}

func plainPoint(s string) ([]uint64, api.Code) {
	var p []uint64
	for _, part := range strings.Split(s, ",") {
		u, code := plainNumber(part)
		if code != api.Fine {
			return nil, code
		}
		p = append(p, u)
	}
	if len(p) > 16 {
		return nil, api.Dim
	}
	return p, api.Fine
}

func plainBox(s string) (api.Box, api.Code) {
	var places []int
	for i := 0; i+2 <= len(s); i++ {
		if s[i:i+2] == ".." {
			places = append(places, i)
		}
	}
	if len(places) != 1 {
		return api.Box{}, api.Word
	}
	lo, code := plainPoint(s[:places[0]])
	if code != api.Fine {
		return api.Box{}, code
	}
	hi, code := plainPoint(s[places[0]+2:])
	if code != api.Fine {
		return api.Box{}, code
	}
	if len(lo) != len(hi) {
		return api.Box{}, api.Dim
	}
	return api.Box{Lo: lo, Hi: hi}, api.Fine
}

// texts calls told with each text of at most so many of the letters.
func texts(letters string, length int, told func(s string)) {
	told("")
	if length == 0 {
		return
	}
	for i := range len(letters) {
		texts(letters, length-1, func(s string) { told(letters[i:i+1] + s) })
	}
}

func checkNumber(t *testing.T, s string) {
	t.Helper()
	want, wantCode := plainNumber(s)
	if u, code := ReadNumber(s); u != want || code != wantCode {
		t.Errorf("ReadNumber(%q) = %d, %d; want %d, %d", s, u, code, want, wantCode)
	}
}

func checkPoint(t *testing.T, s string) {
	t.Helper()
	want, wantCode := plainPoint(s)
	p, code := ReadPoint(s)
	if !slices.Equal(p, want) || code != wantCode {
		t.Errorf("ReadPoint(%q) = %v, %d; want %v, %d", s, p, code, want, wantCode)
	}
	if code != api.Fine {
		return
	}
	// P2.3: what is read is printed as it was.
	if text, code := Point(p); text != s || code != api.Fine {
		t.Errorf("Point(%v) = %q, %d; want %q", p, text, code, s)
	}
}

func checkBox(t *testing.T, s string) {
	t.Helper()
	want, wantCode := plainBox(s)
	b, code := ReadBox(s)
	if !sameBox(b, want) || code != wantCode {
		t.Errorf("ReadBox(%q) = %v, %d; want %v, %d", s, b, code, want, wantCode)
	}
	if code != api.Fine {
		return
	}
	if text, code := Box(b); text != s || code != api.Fine {
		t.Errorf("Box(%v) = %q, %d; want %q", b, text, code, s)
	}
}

func sameBox(b, c api.Box) bool {
	return slices.Equal(b.Lo, c.Lo) && slices.Equal(b.Hi, c.Hi)
}

// row is a point's text of k like coordinates.
func row(k int, text string) string {
	return strings.Join(slices.Repeat([]string{text}, k), ",")
}

// P2.1: a number's text, by literals.
func TestNumber(t *testing.T) {
	for want, u := range map[string]uint64{
		"0": 0, "1": 1, "9": 9, "10": 10, "100": 100, "4294967296": 1 << 32,
		"9223372036854775807": 1<<63 - 1, "9223372036854775808": 1 << 63, mostText: most,
	} {
		if s := Number(u); s != want {
			t.Errorf("Number(%d) = %q; want %q", u, s, want)
		}
		if back, code := ReadNumber(want); back != u || code != api.Fine {
			t.Errorf("ReadNumber(%q) = %d, %d; want %d", want, back, code, u)
		}
	}
}

// P2.1: the errors of a number's text, in their order: Word anywhere goes ahead of Long.
func TestReadNumberRefuses(t *testing.T) {
	for s, want := range map[string]api.Code{
		"": api.Word, " ": api.Word, "x": api.Word, "-": api.Word, "+1": api.Word, "-1": api.Word, "-0": api.Word,
		"00": api.Word, "01": api.Word, "0000": api.Word, "0" + mostText: api.Word, "0" + longText: api.Word,
		"1 ": api.Word, " 1": api.Word, "1\n": api.Word, "1\x00": api.Word, "\x00": api.Word,
		"1.0": api.Word, "1_0": api.Word, "0x1": api.Word, "1e3": api.Word, "1,2": api.Word, "/": api.Word, ":": api.Word,
		"\u0663": api.Word, "1\u0663": api.Word, "\uff11": api.Word, "\xff": api.Word, "1\xff": api.Word, "\xb1": api.Word, "\ufffd": api.Word,
		longText: api.Long, "18446744073709551620": api.Long, "18446744073709551700": api.Long, "20000000000000000000": api.Long,
		"99999999999999999999": api.Long, "100000000000000000000": api.Long, "184467440737095516150": api.Long,
		"1" + strings.Repeat("0", 1000): api.Long, strings.Repeat("9", 100000): api.Long,
		longText + "x": api.Word, strings.Repeat("9", 100000) + "x": api.Word, strings.Repeat("0", 100000): api.Word,
	} {
		if u, code := ReadNumber(s); u != 0 || code != want {
			t.Errorf("ReadNumber(%q) = %d, %d; want %d", s, u, code, want)
		}
	}
}

// P2.1: of one byte each, the digits alone are read.
func TestReadNumberOfEachByte(t *testing.T) {
	for b := range 256 {
		one := string([]byte{byte(b)})
		for _, s := range []string{one, "1" + one, one + "1", mostText + one} {
			checkNumber(t, s)
		}
	}
}

// P2.1: short texts of digits and others, and the neighbours of the greatest number.
func TestReadNumberLikePlain(t *testing.T) {
	texts("0195x", 5, func(s string) { checkNumber(t, s) })
	end := new(big.Int).SetUint64(most)
	for d := int64(-300); d <= 300; d++ {
		checkNumber(t, new(big.Int).Add(end, big.NewInt(d)).String())
	}
}

// P2.2: points' texts, by literals.
func TestPoint(t *testing.T) {
	for want, p := range map[string][]uint64{
		"0": {0}, "7": {7}, mostText: {most}, "1,2": {1, 2}, "2,1": {2, 1}, "0,0": {0, 0}, "7,0,9": {7, 0, 9},
		"10,200,3000,0":                          {10, 200, 3000, 0},
		"1,2,3,4,5,6,7,8,9,10,11,12,13,14,15,16": {1, 2, 3, 4, 5, 6, 7, 8, 9, 10, 11, 12, 13, 14, 15, 16},
		row(16, mostText):                        slices.Repeat([]uint64{most}, 16),
	} {
		kept := slices.Clone(p)
		if s, code := Point(p); s != want || code != api.Fine {
			t.Errorf("Point(%v) = %q, %d; want %q", p, s, code, want)
		}
		if !slices.Equal(p, kept) {
			t.Errorf("Point changed %v to %v", kept, p)
		}
		if back, code := ReadPoint(want); !slices.Equal(back, p) || code != api.Fine {
			t.Errorf("ReadPoint(%q) = %v, %d; want %v", want, back, code, p)
		}
	}
}

// P2.2: no point has a text.
func TestPointRefuses(t *testing.T) {
	for _, k := range []int{0, 17, 18, 100} {
		if s, code := Point(make([]uint64, k)); s != "" || code != api.Dim {
			t.Errorf("Point of %d coordinates = %q, %d; want Dim", k, s, code)
		}
	}
	if s, code := Point(nil); s != "" || code != api.Dim {
		t.Errorf("Point(nil) = %q, %d; want Dim", s, code)
	}
}

// P2.2: the errors of a point's text, in the order of its parts; Dim comes after all of them.
func TestReadPointRefuses(t *testing.T) {
	for s, want := range map[string]api.Code{
		"": api.Word, ",": api.Word, "1,": api.Word, ",1": api.Word, "1,,2": api.Word, "1, 2": api.Word, "1 ,2": api.Word,
		"1;2": api.Word, "01,2": api.Word, "1,02": api.Word, "1,2\n": api.Word, "1\uff0c2": api.Word, "1,\xff": api.Word,
		longText: api.Long, "1," + longText: api.Long, longText + ",1": api.Long,
		longText + ",x": api.Long, "x," + longText: api.Word, longText + ",": api.Long, "," + longText: api.Word,
		row(17, "1"): api.Dim, row(18, "1"): api.Dim, row(1000, "0"): api.Dim, row(17, mostText): api.Dim,
		row(17, "1") + ",": api.Word, row(17, "1") + ",x": api.Word, row(17, "1") + "," + longText: api.Long,
		row(16, "1") + ",": api.Word, row(16, "1") + ",x": api.Word, row(16, "1") + "," + longText: api.Long,
		row(100, "1") + ",": api.Word, row(100, "1") + "," + longText + ",": api.Long, row(100, "1") + ",," + longText: api.Word,
		strings.Repeat(",", 16): api.Word, strings.Repeat(",", 17): api.Word,
	} {
		if p, code := ReadPoint(s); len(p) != 0 || code != want {
			t.Errorf("ReadPoint(%q) = %v, %d; want %d", s, p, code, want)
		}
	}
}

// P2.2, P2.3: short texts are read as the chapter's words say, and printed as they were.
func TestReadPointLikePlain(t *testing.T) {
	texts("01,x", 6, func(s string) { checkPoint(t, s) })
	for _, a := range []string{"", "0", "x", mostText, longText} {
		for k := range 20 {
			checkPoint(t, row(k, "7")+","+a)
			checkPoint(t, a+","+row(k, "7"))
			checkPoint(t, row(k, "7")+","+a+","+row(k, "8"))
			checkPoint(t, row(k, mostText))
		}
	}
}

// P2.2: boxes' texts, by literals; a box needn't have its lower corner first.
func TestBox(t *testing.T) {
	for want, b := range map[string]api.Box{
		"1,2..3,4":                          {Lo: []uint64{1, 2}, Hi: []uint64{3, 4}},
		"0..0":                              {Lo: []uint64{0}, Hi: []uint64{0}},
		"9..1":                              {Lo: []uint64{9}, Hi: []uint64{1}},
		"0.." + mostText:                    {Lo: []uint64{0}, Hi: []uint64{most}},
		"5,0,7..4,1,6":                      {Lo: []uint64{5, 0, 7}, Hi: []uint64{4, 1, 6}},
		row(16, "1") + ".." + row(16, "20"): {Lo: slices.Repeat([]uint64{1}, 16), Hi: slices.Repeat([]uint64{20}, 16)},
	} {
		lo, hi := slices.Clone(b.Lo), slices.Clone(b.Hi)
		if s, code := Box(b); s != want || code != api.Fine {
			t.Errorf("Box(%v) = %q, %d; want %q", b, s, code, want)
		}
		if !slices.Equal(b.Lo, lo) || !slices.Equal(b.Hi, hi) {
			t.Errorf("Box changed %v, %v to %v", lo, hi, b)
		}
		if back, code := ReadBox(want); !sameBox(back, b) || code != api.Fine {
			t.Errorf("ReadBox(%q) = %v, %d; want %v", want, back, code, b)
		}
	}
}

// P2.2: no box has a text.
func TestBoxRefuses(t *testing.T) {
	some := func(k int) []uint64 { return make([]uint64, k) }
	for _, b := range []api.Box{
		{}, {Lo: some(1)}, {Hi: some(1)}, {Lo: some(0), Hi: some(0)}, {Lo: some(1), Hi: some(2)}, {Lo: some(2), Hi: some(1)},
		{Lo: some(16), Hi: some(17)}, {Lo: some(17), Hi: some(16)}, {Lo: some(17), Hi: some(17)}, {Lo: some(16), Hi: some(15)},
	} {
		if s, code := Box(b); s != "" || code != api.Dim {
			t.Errorf("Box(%v) = %q, %d; want Dim", b, s, code)
		}
	}
}

// P2.2: the errors of a box's text: Word without just one place of two points, the corners' in order, Dim last.
func TestReadBoxRefuses(t *testing.T) {
	for s, want := range map[string]api.Code{
		"": api.Word, ".": api.Word, "..": api.Word, "...": api.Word, "....": api.Word, "1": api.Word, "1,2": api.Word, "1.2": api.Word, "1. .2": api.Word,
		"1...2": api.Word, "1....2": api.Word, "1..2..3": api.Word, "..1..2": api.Word, "1..2..": api.Word, "1..2.": api.Word, ".1..2": api.Word,
		"1..": api.Word, "..1": api.Word, "1..x": api.Word, "x..1": api.Word, "1, 2..3,4": api.Word, "1,2 ..3,4": api.Word, "1\u2025" + "2": api.Word,
		longText + "..1": api.Long, "1.." + longText: api.Long, longText + "..x": api.Long, "x.." + longText: api.Word,
		longText + "...1": api.Word, longText + "..1..1": api.Word, longText: api.Word, longText + "..": api.Long, ".." + longText: api.Word,
		"1,2..3": api.Dim, "1..2,3": api.Dim, "1,2..3,": api.Word, "1,2.." + longText: api.Long,
		row(17, "1") + ".." + row(17, "1"): api.Dim, row(17, "1") + "..x": api.Dim, row(17, "1") + ".." + longText: api.Dim,
		"x.." + row(17, "1"): api.Word, "1.." + row(17, "1"): api.Dim, row(16, "1") + ".." + row(15, "1"): api.Dim,
		row(17, "1"): api.Word, row(17, "1") + "...1": api.Word,
	} {
		if b, code := ReadBox(s); len(b.Lo) != 0 || len(b.Hi) != 0 || code != want {
			t.Errorf("ReadBox(%q) = %v, %d; want %d", s, b, code, want)
		}
	}
}

// P2.2, P2.3: short texts are read as the chapter's words say, and printed as they were.
func TestReadBoxLikePlain(t *testing.T) {
	texts("01,.x", 7, func(s string) { checkBox(t, s) })
	ends := []string{"", "1", "1,2", "x", ",", mostText, longText, row(16, "3"), row(17, "3")}
	for _, lo := range ends {
		for _, hi := range ends {
			for _, between := range []string{"", ".", "..", "...", "....", ".. ", ","} {
				checkBox(t, lo+between+hi)
			}
		}
	}
}

// P2.2: a box that was read has its corners each to itself.
func TestReadBoxShares(t *testing.T) {
	b, _ := ReadBox("1,2..3,4")
	lo := append(b.Lo, 9)
	lo[0], lo[1] = 8, 8
	if !slices.Equal(b.Hi, []uint64{3, 4}) {
		t.Errorf("the upper corner became %v", b.Hi)
	}
	again, _ := ReadBox("1,2..3,4")
	if !slices.Equal(again.Lo, []uint64{1, 2}) {
		t.Errorf("read again, the lower corner is %v", again.Lo)
	}
}

// P2.2: names, by literals.
func TestName(t *testing.T) {
	for s, want := range map[string]bool{
		"a": true, "z": true, "m": true, "a0": true, "a9": true, "a-": true, "z9-": true, "a--0": true, "main": true, "az-09": true,
		strings.Repeat("a", 31): true, strings.Repeat("a", 32): true, "a" + strings.Repeat("-", 31): true, "z" + strings.Repeat("9", 31): true,
		"": false, "0": false, "9": false, "-": false, "-a": false, "9a": false, "A": false, "aA": false, "Z": false, "a_": false, "a b": false, " a": false, "a ": false,
		"a.": false, "a\n": false, "a\x00": false, "`": false, "{": false, "a`": false, "a{": false, "a/": false, "a:": false, "a,": false,
		"\u00e4": false, "a\u00e4": false, "a\xff": false, "\xff": false, "a\u0663": false, "\uff41": false, "a\uff0d": false, "a\ufffd": false,
		strings.Repeat("a", 33): false, strings.Repeat("a", 1000): false, strings.Repeat("a", 31) + "\u00e4": false, strings.Repeat("\u00e4", 16): false,
	} {
		if Name(s) != want {
			t.Errorf("Name(%q) = %t", s, !want)
		}
	}
}

// P2.2: each byte as the first, the second and the last one of a name, and the lengths that a name may have.
func TestNameLikePlain(t *testing.T) {
	plain := regexp.MustCompile(`\A[a-z][a-z0-9-]{0,31}\z`)
	for b := range 256 {
		one := string([]byte{byte(b)})
		for _, s := range []string{one, one + "a", "a" + one, "a" + one + "a", strings.Repeat("a", 31) + one, one + strings.Repeat("a", 31)} {
			if Name(s) != plain.MatchString(s) {
				t.Errorf("Name(%q) = %t", s, Name(s))
			}
		}
	}
	for n := range 70 {
		if Name(strings.Repeat("n", n)) != (n >= 1 && n <= 32) {
			t.Errorf("Name of %d letters = %t", n, !(n >= 1 && n <= 32))
		}
	}
	texts("a0-A", 5, func(s string) {
		if Name(s) != plain.MatchString(s) {
			t.Errorf("Name(%q) = %t", s, Name(s))
		}
	})
}

// P2.3: what is printed is read.
func TestPrintedIsRead(t *testing.T) {
	list := numbers()
	for i, u := range list {
		if back, code := ReadNumber(Number(u)); back != u || code != api.Fine {
			t.Errorf("ReadNumber(Number(%d)) = %d, %d", u, back, code)
		}
		for k := 1; k <= api.MaxK; k++ {
			p := slices.Repeat([]uint64{u}, k)
			p[0], p[k/2] = list[(i*7+k)%len(list)], list[(i*3+k)%len(list)]
			s, code := Point(p)
			if back, readCode := ReadPoint(s); !slices.Equal(back, p) || code != api.Fine || readCode != api.Fine {
				t.Errorf("ReadPoint(Point(%v)) = %v, %d, %d", p, back, code, readCode)
			}
			b := api.Box{Lo: p, Hi: slices.Repeat([]uint64{u}, k)}
			s, code = Box(b)
			if back, readCode := ReadBox(s); !sameBox(back, b) || code != api.Fine || readCode != api.Fine {
				t.Errorf("ReadBox(Box(%v)) = %v, %d, %d", b, back, code, readCode)
			}
		}
	}
}
