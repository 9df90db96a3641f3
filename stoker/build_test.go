package stoker_test

import (
	"bytes"
	"encoding/hex"
	"slices"
	"strings"
	"testing"

	"stoker/api"
	"stoker/stoker"
)

// unhex turns hexadecimal digits, with blanks between them or not, into bytes.
func unhex(digits string) []byte {
	b, err := hex.DecodeString(strings.ReplaceAll(digits, " ", ""))
	if err != nil {
		panic(err)
	}
	return b
}

// function is a signature ("il:i": an I32 and an I64 to an I32), the further locals ("il"), and code in digits without the last END.
type function struct {
	sig, locals, code string
}

func typeBytes(letters string) []byte {
	out := []byte{byte(len(letters))}
	for _, c := range letters {
		out = append(out, map[rune]byte{'i': api.I32, 'l': api.I64}[c])
	}
	return out
}

func shortU(n int) []byte {
	out := []byte{}
	for n > 127 {
		out = append(out, byte(n)|0x80)
		n >>= 7
	}
	return append(out, byte(n))
}

func sized(body []byte) []byte { return append(shortU(len(body)), body...) }

// head is what stands ahead of the bodies; each function has a type of its own.
func head(globals string, fs ...function) []byte {
	out := append([]byte("STK\x01"), byte(len(fs)))
	for _, f := range fs {
		params, results, _ := strings.Cut(f.sig, ":")
		out = append(append(out, typeBytes(params)...), typeBytes(results)...)
	}
	out = append(out, byte(len(fs)))
	for n := range fs {
		out = append(out, byte(n))
	}
	return append(append(out, unhex(globals)...), 0)
}

func module(globals string, fs ...function) []byte {
	out := head(globals, fs...)
	for _, f := range fs {
		body := append(append(typeBytes(f.locals), unhex(f.code)...), 0x0b)
		out = append(out, sized(body)...)
	}
	return out
}

// raw is a module of one function whose body, behind its size, is just the digits.
func raw(sig, body string) []byte {
	return append(head("00", function{sig: sig}), sized(unhex(body))...)
}

// wants loads a copy, so that a list that was written into is seen.
func wants(t *testing.T, data []byte, err api.Errno, at int) *stoker.Module {
	t.Helper()
	given := bytes.Clone(data)
	m, gotErr, gotAt := stoker.Load(given)
	if gotErr != err || gotAt != at || (m == nil) != (err != api.OK) {
		t.Errorf("Load(% x) = %v, %d, %d, want error %d, place %d", data, m != nil, gotErr, gotAt, err, at)
	}
	if !bytes.Equal(given, data) {
		t.Errorf("Load wrote into % x", data)
	}
	return m
}

func good(t *testing.T, data []byte) *stoker.Module {
	t.Helper()
	return wants(t, data, api.OK, 0)
}

// badCode wants an error in the last function's code, at a place told from its first instruction on.
func badCode(t *testing.T, data []byte, code string, err api.Errno, off int) {
	t.Helper()
	wants(t, data, err, len(data)-1-len(unhex(code))+off)
}

// paged is a module with memory: how many pages it has is the last byte of its head.
func paged(pages byte, globals string, fs ...function) []byte {
	out := module(globals, fs...)
	out[len(head(globals, fs...))-1] = pages
	return out
}

// begin starts a module on a store of its own.
func begin(t *testing.T, data []byte) *stoker.Instance {
	t.Helper()
	return startOn(t, stoker.NewStore(), data)
}

func startOn(t *testing.T, s *stoker.Store, data []byte) *stoker.Instance {
	t.Helper()
	i := s.Start(good(t, data))
	if i == nil {
		t.Fatalf("no instance of % x", data)
	}
	return i
}

// gives wants a call's answer, and the arguments as they were.
func gives(t *testing.T, i *stoker.Instance, want api.Reply, fuel, f int, args ...uint64) {
	t.Helper()
	given := slices.Clone(args)
	if got := i.Call(f, given, fuel); got != want {
		t.Errorf("Call(%d, %d, %d) = %+v, want %+v", f, args, fuel, got, want)
	}
	if !slices.Equal(given, args) {
		t.Errorf("Call(%d, %d, %d) wrote %d into the arguments", f, args, fuel, given)
	}
}

// burns wants a new instance's first answer, and that it takes just that fuel: more of it changes nothing, with one less it is gone.
func burns(t *testing.T, data []byte, want api.Reply, f int, args ...uint64) {
	t.Helper()
	for _, fuel := range []int{want.Used, want.Used + 1, api.MaxFuel} {
		gives(t, begin(t, data), want, fuel, f, args...)
	}
	if want.Used > 0 {
		gives(t, begin(t, data), api.Reply{Trap: api.Fuel, Used: want.Used - 1}, want.Used-1, f, args...)
	}
}
