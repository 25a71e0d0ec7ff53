package layout_test

import (
	"math/rand"
	"slices"
	"strings"
	"testing"
	"unicode/utf16"
	"unicode/utf8"

	"transom/api"
	"transom/layout"
)

// P6.4
func TestUnits(t *testing.T) {
	for _, x := range []struct {
		text string
		want []uint16
	}{
		{"", nil},
		{"\x00", []uint16{0}},
		{"a~\x7f", []uint16{'a', '~', 0x7f}},
		{"\u0080é߿", []uint16{0x80, 0xe9, 0x7ff}},
		{"ࠀ€\ufb00", []uint16{0x800, 0x20ac, 0xfb00}},
		// Next to the surrogates, U+FFFD itself, and the last sign of one unit.
		{"\ud7ff\ue000\ufffd\uffff", []uint16{0xd7ff, 0xe000, 0xfffd, 0xffff}},
		// The first sign of two units, one in between, and the last of all.
		{"\U00010000", []uint16{0xd800, 0xdc00}},
		{"\U000103ff\U00010400", []uint16{0xd800, 0xdfff, 0xd801, 0xdc00}},
		{"😀", []uint16{0xd83d, 0xde00}},
		{"\U0010ffff", []uint16{0xdbff, 0xdfff}},
		{"a😀é", []uint16{'a', 0xd83d, 0xde00, 0xe9}},
	} {
		if got := layout.Units(x.text); !slices.Equal(got, x.want) {
			t.Errorf("%q: %x, not %x", x.text, got, x.want)
		}
	}
}

// P6.4: each sign alone, and all of them in one text.
func TestUnitsOfAllSigns(t *testing.T) {
	b := &strings.Builder{}
	for sign := range rune(utf8.MaxRune + 1) {
		if !utf8.ValidRune(sign) {
			continue
		}
		b.WriteRune(sign)
		if got, want := layout.Units(string(sign)), utf16.Encode([]rune{sign}); !slices.Equal(got, want) {
			t.Fatalf("%U: %x, not %x", sign, got, want)
		}
	}
	if !slices.Equal(layout.Units(b.String()), utf16.Encode([]rune(b.String()))) {
		t.Error("all signs in one text")
	}
}

// P1: texts that aren't UTF-8.
func TestUnitsOfNoText(t *testing.T) {
	for _, s := range []string{"\xff", "a\xc3", "\xed\xa0\x80", "\xf4\x90\x80\x80", "\xf0\x9f\x98", strings.Repeat("\x80", 10000)} {
		layout.Units(s)
	}
}

// named: a struct with these labels.
func named(labels ...string) api.Record {
	r := api.Record{Name: "S"}
	for _, x := range labels {
		r.Fields = append(r.Fields, api.Field{Name: x, Type: api.Type{Kind: api.U8}})
	}
	return r
}

// P6.4
func TestSorted(t *testing.T) {
	for _, x := range []struct {
		labels []string
		want   []int
	}{
		{[]string{"ﬀ", "😀"}, []int{1, 0}}, // by their bytes, and by their signs, the other way
		{[]string{"😀", "ﬀ"}, []int{0, 1}},
		{[]string{"a"}, []int{0}},
		{[]string{"b", "a"}, []int{1, 0}},
		{[]string{"a", "B", "_", "1", "Z"}, []int{3, 1, 4, 2, 0}},
		// The shorter one first where one begins as the other, and only there.
		{[]string{"ab", "a"}, []int{1, 0}},
		{[]string{"a", "ab"}, []int{0, 1}},
		{[]string{"b", "ab", "aab", "abc", "aa"}, []int{4, 2, 1, 3, 0}},
		{[]string{"é😀", "é"}, []int{1, 0}},
		{[]string{"x10", "x9", "x1"}, []int{2, 0, 1}},
		// Two units are below U+E000 to U+FFFF, and above what is below the surrogates.
		{[]string{"\uffff", "\ue000", "\U0010ffff", "\U00010000", "\ud7ff", "é", "z"}, []int{6, 5, 4, 3, 2, 1, 0}},
		// The second unit tells, where the first is the same; the first one goes ahead of it.
		{[]string{"😁", "😀"}, []int{1, 0}},
		{[]string{"\U00010400", "\U000103ff"}, []int{1, 0}},
		{[]string{"a\ue000", "a\U00010000b", "a\U00010000a"}, []int{2, 1, 0}},
		// The higher byte of a unit tells ahead of the lower one.
		{[]string{"\u0161", "\u0162", "b", "\u0201"}, []int{2, 0, 1, 3}},
		{words("p o n m l k j i h g f e d c b a"), ints(15, -1, 16)},
	} {
		if got := layout.Sorted(named(x.labels...)); !slices.Equal(got, x.want) {
			t.Errorf("%q: %v, not %v", x.labels, got, x.want)
		}
	}
}

// rank: a text that stands, byte by byte, as a label does unit by unit.
func rank(label string) string {
	b := &strings.Builder{}
	for _, u := range utf16.Encode([]rune(label)) {
		b.Write([]byte{byte(u >> 8), byte(u)})
	}
	return b.String()
}

// P6.4: labels of few signs, so that many begin alike.
func TestSortedOfManyLabels(t *testing.T) {
	signs := []rune{'a', 'b', 'é', 0x20ac, 0xd7ff, 0xe000, 0xffff, 0x10000, 0x10001, 0x1f600, 0x10ffff}
	random := rand.New(rand.NewSource(6))
	for range 5000 {
		places := map[string]int{}
		var labels []string
		for range 1 + random.Intn(16) {
			label := make([]rune, 1+random.Intn(3))
			for i := range label {
				label[i] = signs[random.Intn(len(signs))]
			}
			if _, ok := places[rank(string(label))]; !ok {
				places[rank(string(label))] = len(labels)
				labels = append(labels, string(label))
			}
		}
		var want []int
		ranks := make([]string, 0, len(places))
		for x := range places {
			ranks = append(ranks, x)
		}
		slices.Sort(ranks)
		for _, x := range ranks {
			want = append(want, places[x])
		}
		if got := layout.Sorted(named(labels...)); !slices.Equal(got, want) {
			t.Fatalf("%q: %v, not %v", labels, got, want)
		}
	}
}
