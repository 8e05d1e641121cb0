package record

import (
	"math"
	"strings"
	"testing"

	"shardflow/api"
)

func TestHash(t *testing.T) { // example 1, and longer keys
	for _, c := range []struct {
		text string
		want int
	}{
		{"a", 97}, {"b", 98}, {"ab", 33}, {"ba", 63}, {"z", 122}, {"zz", 64},
		{"aaaaaaaa", 128}, {"zzzzzzzz", 0}, {"abcdefgh", 132},
	} {
		key, ok := ParseKey(c.text)
		if !ok || key.Hash() != c.want {
			t.Errorf("hash of %q = %d, %v, want %d", c.text, key.Hash(), ok, c.want)
		}
	}
}

func TestKeyOfEachByte(t *testing.T) {
	for b := range 256 {
		want := b >= 'a' && b <= 'z'
		for _, text := range []string{string([]byte{byte(b)}), string([]byte{'a', byte(b)}), string([]byte{byte(b), 'z'}), "abcdefg" + string([]byte{byte(b)})} {
			if key, ok := ParseKey(text); ok != want || (!ok && key != Key{}) {
				t.Errorf("ParseKey(%q) = %v, %v", text, key, ok)
			}
		}
	}
}

func TestKeyOfEachLength(t *testing.T) {
	for length := range 300 {
		want := length >= 1 && length <= 8
		if _, ok := ParseKey(strings.Repeat("k", length)); ok != want {
			t.Errorf("ParseKey of %d letters: %v", length, ok)
		}
	}
	if _, ok := ParseKey(strings.Repeat("k", 1<<24)); ok {
		t.Error("a very long text is taken as a key")
	}
}

func TestKeysDiffer(t *testing.T) {
	texts := []string{"a", "aa", "b", "ab", "ba", "aaaaaaaa", "aaaaaaab", "aaaaaaa"}
	for i, one := range texts {
		for k, other := range texts {
			a, _ := ParseKey(one)
			b, _ := ParseKey(other)
			if (a == b) != (i == k) {
				t.Errorf("keys of %q and %q: same is %v", one, other, a == b)
			}
		}
	}
}

func TestMake(t *testing.T) {
	const million = 1000000
	for _, c := range []struct {
		text        string
		value, time int
		want        api.Errno
	}{
		{"a", 0, 0, api.OK}, {"a", million, million, api.OK}, {"a", -million, 0, api.OK},
		{"a", million + 1, 0, api.ErrValue}, {"a", -million - 1, 0, api.ErrValue}, {"a", math.MaxInt, 0, api.ErrValue}, {"a", math.MinInt, 0, api.ErrValue},
		{"a", 0, -1, api.ErrTime}, {"a", 0, million + 1, api.ErrTime}, {"a", 0, math.MaxInt, api.ErrTime}, {"a", 0, math.MinInt, api.ErrTime},
		{"", 0, 0, api.ErrKey}, {"A", math.MaxInt, 0, api.ErrKey}, {"A", 0, -1, api.ErrKey}, {"A", math.MinInt, -1, api.ErrKey}, {"a", million + 1, -1, api.ErrValue},
	} {
		r, e := Make(c.text, c.value, c.time)
		want := Record{}
		if c.want == api.OK {
			key, _ := ParseKey(c.text)
			want = Record{Key: key, Value: c.value, Time: c.time}
		}
		if r != want || e != c.want {
			t.Errorf("Make(%q, %d, %d) = %v, %d, want %v, %d", c.text, c.value, c.time, r, e, want, c.want)
		}
	}
}
