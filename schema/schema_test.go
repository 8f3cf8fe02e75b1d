package schema

import (
	"reflect"
	"testing"
)

func texts(words []Word) []string {
	var out []string
	for _, w := range words {
		out = append(out, w.Text)
	}
	return out
}

func TestSplit(t *testing.T) {
	for _, c := range []struct {
		text string
		want []Word
	}{
		{"", []Word{{End, "", 0}}},
		{" \n ", []Word{{End, "", 3}}},
		{"a1_B 10x", []Word{{Name, "a1_B", 0}, {Number, "10", 5}, {Name, "x", 7}, {End, "", 8}}},
		{"0012", []Word{{Number, "0", 0}, {Number, "0", 1}, {Number, "12", 2}, {End, "", 4}}},
		{"map<int32,_>", []Word{{Plain, "map", 0}, {Plain, "<", 3}, {Builtin, "int32", 4}, {Plain, ",", 9}, {Name, "_", 10}, {Plain, ">", 11}, {End, "", 12}}},
		{"\tA\xc3\xa4", []Word{{Plain, "\t", 0}, {Name, "A", 1}, {Plain, "\xc3", 2}, {Plain, "\xa4", 3}, {End, "", 4}}},
		{"==", []Word{{Plain, "=", 0}, {Plain, "=", 1}, {End, "", 2}}},
	} {
		if got := split(c.text); !reflect.DeepEqual(got, c.want) {
			t.Errorf("split(%q): %v, want %v", c.text, got, c.want)
		}
	}
}

func TestValue(t *testing.T) {
	for text, want := range map[string]uint64{"0": 0, "7": 7, "2147483648": 2147483648, "18446744073709551615": 1<<64 - 1, "18446744073709551616": 1<<64 - 1, "100000000000000000000000": 1<<64 - 1} {
		if got := (Word{Kind: Number, Text: text}).Value(); got != want {
			t.Errorf("value of %s: %d, want %d", text, got, want)
		}
	}
}

func TestTree(t *testing.T) {
	tree := Read("message A{int32 a=1;optional A b=2;repeated E c=3;oneof o{bool d=4;bytes e=5;}map<string,A>f=6;}enum E{X=0;Y=9;}")
	if len(tree.Blocks) != 2 {
		t.Fatalf("%d blocks", len(tree.Blocks))
	}
	a, e := tree.Blocks[0], tree.Blocks[1]
	if a.Enum || a.Name.Text != "A" || len(a.Values) != 0 || !e.Enum || e.Name.Text != "E" || len(e.Parts) != 0 {
		t.Errorf("blocks %v", tree.Blocks)
	}
	type row struct {
		oneof string
		form  Form
		words []string
	}
	var got []row
	for _, p := range a.Parts {
		for _, f := range p.Fields {
			got = append(got, row{p.Oneof.Text, f.Form, texts([]Word{f.Key, f.Type, f.Name, f.Number})})
		}
	}
	want := []row{
		{"", Single, []string{"", "int32", "a", "1"}},
		{"", Optional, []string{"", "A", "b", "2"}},
		{"", Repeated, []string{"", "E", "c", "3"}},
		{"o", OfOneof, []string{"", "bool", "d", "4"}},
		{"o", OfOneof, []string{"", "bytes", "e", "5"}},
		{"", Map, []string{"string", "A", "f", "6"}},
	}
	if !reflect.DeepEqual(got, want) {
		t.Errorf("fields %v, want %v", got, want)
	}
	if len(e.Values) != 2 || e.Values[1].Name.Text != "Y" || e.Values[1].Number.Text != "9" {
		t.Errorf("values %v", e.Values)
	}
}
