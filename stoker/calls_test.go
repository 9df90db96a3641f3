package stoker_test

import (
	"bytes"
	"slices"
	"strings"
	"sync"
	"testing"

	"stoker/api"
	"stoker/stoker"
)

// samples are modules that together hold every kind of thing.
func samples() [][]byte {
	return [][]byte{
		unhex(sum),
		module("02 7f01 8001 7e00 ffffffffffffffffff00",
			function{"il:l", "li", "2000 04 7e 2001 0c00 05 4205 2000 0d00 0b 2202 2300 2400 1002 7c"},
			function{":i", "", "02 7f 4101 4102 0e 02 000100 0b"},
			function{":l", "", "03 40 1001 0d00 0b 4207 e0 0f"}),
		module("00", function{"i:i", "i", "2000 2804 2101 2000 2001 3600 2000 298001 a7 ac 1a 2000 40 1a 2000 2201 2001 4101 1b"}),
		module("00", function{":", "", strings.Repeat("0240", 16) + "00" + strings.Repeat("0b", 16)}),
		module("00", function{":", "", "42014202e1 4101 427e 37 03 4101 4102 3a 00 3f 1a"}),
	}
}

// sound wants what holds whatever the bytes are.
func sound(t *testing.T, data []byte) {
	t.Helper()
	given := bytes.Clone(data)
	m, err, at := stoker.Load(given)
	switch {
	case !bytes.Equal(given, data):
		t.Fatalf("Load wrote into % x", data)
	case err == api.OK && (m == nil || at != 0):
		t.Fatalf("Load(% x) = %v, OK, %d", data, m != nil, at)
	case err != api.OK && (m != nil || at < 0 || at > len(data)):
		t.Fatalf("Load(% x) = %v, %d, %d", data, m != nil, err, at)
	case err != api.OK && err != api.ErrForm && err != api.ErrType:
		t.Fatalf("Load(% x): error %d", data, err)
	}
	for f := -1; f <= m.Funcs(); f++ {
		m.Type(f)
	}
	if _, err2, at2 := stoker.Load(data); err2 != err || at2 != at {
		t.Fatalf("Load(% x) = %d, %d, then %d, %d", data, err, at, err2, at2)
	}
}

func TestSamplesLoad(t *testing.T) {
	for _, data := range samples() {
		good(t, data)
	}
}

func TestEveryByteBroken(t *testing.T) {
	for _, data := range samples() {
		for at := range data {
			for c := range 256 {
				broken := bytes.Clone(data)
				broken[at] = byte(c)
				sound(t, broken)
			}
			sound(t, data[:at])
			sound(t, slices.Delete(bytes.Clone(data), at, at+1))
			sound(t, slices.Insert(bytes.Clone(data), at, 0x0b))
		}
	}
}

func TestAnyCode(t *testing.T) {
	seed := uint32(1)
	next := func(n uint32) byte {
		seed = seed*1664525 + 1013904223
		return byte((seed >> 16) % n)
	}
	for range 20000 {
		code := []byte{}
		for range int(next(40)) {
			code = append(code, next(256))
		}
		body := slices.Concat([]byte{0}, code, []byte{0x0b})
		sound(t, append(head("01 7f 01 05", function{sig: "i:i"}), sized(body)...))
	}
}

func TestNoModule(t *testing.T) {
	m, _, _ := stoker.Load(nil)
	if m != nil || m.Funcs() != 0 {
		t.Errorf("a module beside an error: %v, %d functions", m != nil, m.Funcs())
	}
	noFunc(t, m, 0, -1, 1)
}

func TestManyAtOnce(t *testing.T) {
	data := samples()[1]
	shared := good(t, data)
	var all sync.WaitGroup
	for range 8 {
		all.Go(func() {
			for range 200 {
				m, err, at := stoker.Load(data)
				params, results, _ := shared.Type(0)
				if err != api.OK || at != 0 || m.Funcs() != shared.Funcs() || string(params) != "\x7f\x7e" || string(results) != "\x7e" {
					t.Errorf("at once: %d, %d, %x, %x", err, at, params, results)
				}
				clear(params)
				clear(results)
			}
		})
	}
	all.Wait()
}

func TestBytesAreNotKept(t *testing.T) {
	data := samples()[1]
	m, _, _ := stoker.Load(data)
	clear(data)
	params, results, err := m.Type(0)
	if m.Funcs() != 3 || err != api.OK || string(params) != "\x7f\x7e" || string(results) != "\x7e" {
		t.Errorf("the module changed with the bytes: %d functions, %x, %x, %d", m.Funcs(), params, results, err)
	}
}

func TestTypesAreNewMemory(t *testing.T) {
	// Two functions share a type, and both lists hold something.
	m := good(t, unhex(start+"01 03 7f7e7f 01 7e 02 00 00 00 00 03 00 00 0b 03 00 00 0b"))
	for range 2 {
		params, results, _ := m.Type(0)
		for n := range params[:cap(params)] {
			params[:cap(params)][n] = 1
		}
		if string(results) != "\x7e" {
			t.Errorf("the lists share memory: %x", results)
		}
		for n := range results[:cap(results)] {
			results[:cap(results)][n] = 2
		}
		if slices.Contains(params, 2) {
			t.Errorf("the lists share memory: %x", params)
		}
		for f := range 2 {
			if params, results, _ := m.Type(f); string(params) != "\x7f\x7e\x7f" || string(results) != "\x7e" {
				t.Errorf("Type(%d) = %x, %x after a list was written into", f, params, results)
			}
		}
	}
}

func TestModulesAreApart(t *testing.T) {
	one, other := good(t, samples()[0]), good(t, samples()[1])
	again := good(t, samples()[0])
	if one.Funcs() != 1 || other.Funcs() != 3 || again.Funcs() != 1 {
		t.Errorf("functions: %d, %d, %d", one.Funcs(), other.Funcs(), again.Funcs())
	}
	if params, _, _ := one.Type(0); string(params) != "\x7f\x7f" {
		t.Errorf("Type(0) = %x", params)
	}
}
