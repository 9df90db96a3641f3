package stoker_test

import (
	"math/rand/v2"
	"strings"
	"testing"

	"stoker/api"
	"stoker/stoker"
)

// maker writes code by chance, the same for the same seed; whatever it writes can be loaded.
type maker struct {
	*rand.Rand
	sigs   []string
	locals string   // letters of the function's locals, parameters first
	blocks []string // the values of the labels, the body's first: "", "i" or "l"
	room   int      // about how many instructions may still be written
}

const madeGlobals = "03 7f01 05 7e01 7f 7f00 8001"

// globalsOf are the globals of a type that may be read, and the one that may be set.
func globalsOf(letter string) (string, string) {
	if letter == "i" {
		return "0002", "00"
	}
	return "01", "01"
}

// made is a module by chance.
func made(seed uint64) []byte {
	k := &maker{Rand: rand.New(rand.NewPCG(seed, 8))}
	for range 1 + k.IntN(4) {
		k.sigs = append(k.sigs, k.letters(3)+":"+k.letters(1))
	}
	fs := []function{}
	for _, sig := range k.sigs {
		params, result, _ := strings.Cut(sig, ":")
		more := k.letters(3)
		k.locals, k.blocks, k.room = params+more, []string{result}, 40
		fs = append(fs, function{sig, more, k.part(result)})
	}
	return paged(byte(k.IntN(3)), madeGlobals, fs...)
}

func (k *maker) pick(list ...string) string { return list[k.IntN(len(list))] }

func (k *maker) letters(most int) string {
	out := ""
	for range k.IntN(most + 1) {
		out += k.pick("i", "l")
	}
	return out
}

func join(pieces ...string) string { return strings.Join(pieces, " ") }

func (k *maker) number(letter string) string {
	if letter == "i" {
		return join("41", k.pick("00", "01", "02", "03", "3f", "7f", "7e", "8080808078", "ffffffff07"))
	}
	return join("42", k.pick("00", "01", "02", "03", "3f", "7f", "7e", "8080808010", "8080808080808080807f"))
}

// part is what stands in a block: it leaves the result or goes away.
func (k *maker) part(result string) string {
	out := ""
	for n := k.IntN(4); n > 0 && k.room > 0; n-- {
		out += k.statement()
	}
	switch k.IntN(12) {
	case 0:
		n := k.IntN(len(k.blocks))
		return join(out, k.value(k.carried(n)), "0c", digits(byte(n)))
	case 1:
		return join(out, k.value(k.blocks[0]), "0f")
	case 2:
		return join(out, k.table())
	case 3:
		if k.IntN(4) == 0 {
			return join(out, "00")
		}
	}
	return out + k.value(result)
}

// carried is the value of a label.
func (k *maker) carried(label int) string { return k.blocks[len(k.blocks)-1-label] }

func (k *maker) table() string {
	last := k.IntN(len(k.blocks))
	labels := []string{}
	for n := range k.blocks {
		if k.carried(n) == k.carried(last) {
			labels = append(labels, digits(byte(n)))
		}
	}
	return join(k.value(k.carried(last)), k.value("i"), "0e", digits(byte(len(labels))), strings.Join(labels, ""), digits(byte(last)))
}

// block is a BLOCK, a LOOP or an IF with that result.
func (k *maker) block(result string) string {
	if len(k.blocks) > 6 {
		return k.plain(result)
	}
	typ := map[string]string{"": "40", "i": "7f", "l": "7e"}[result]
	op := k.pick("02", "03", "04")
	if op == "03" {
		return join("03", typ, k.within("", result), "0b")
	}
	if op == "02" {
		return join("02", typ, k.within(result, result), "0b")
	}
	out := join(k.value("i"), "04", typ, k.within(result, result))
	if result != "" || k.IntN(2) == 0 {
		out += "05" + k.within(result, result)
	}
	return out + "0b"
}

func (k *maker) within(carried, result string) string {
	k.blocks = append(k.blocks, carried)
	out := k.part(result)
	k.blocks = k.blocks[:len(k.blocks)-1]
	return out
}

// call is a call of a function with that result, if there is one.
func (k *maker) call(result string) (string, bool) {
	for _, n := range k.Perm(len(k.sigs)) {
		params, got, _ := strings.Cut(k.sigs[n], ":")
		if got != result {
			continue
		}
		out := ""
		for _, letter := range params {
			out += k.value(string(letter))
		}
		return join(out, "10", digits(byte(n))), true
	}
	return "", false
}

// statement takes nothing and leaves nothing.
func (k *maker) statement() string {
	letter := k.pick("i", "l")
	_, global := globalsOf(letter)
	switch k.IntN(10) {
	case 0:
		return join(k.address(), k.value("i"), k.pick("36", "3a"), k.pick("00", "04"))
	case 1:
		return join(k.address(), k.value("l"), "37", k.pick("00", "01"))
	case 2:
		return join(k.value(letter), "24", global)
	case 3:
		return join("42", k.pick("00", "01", "02"), k.value("l"), "e1")
	case 4:
		return k.block("")
	case 5:
		if code, ok := k.call(""); ok {
			return code
		}
	case 6:
		if n := k.IntN(len(k.blocks)); k.carried(n) == "" {
			return join(k.value("i"), "0d", digits(byte(n)))
		}
	case 7:
		return join(k.value("l"), k.value("l"), "e1")
	case 8:
		// Each time the next key, that a global tells.
		return join("2301", k.value("l"), "e1 2301 4201 7c 2401")
	}
	if len(k.locals) > 0 {
		n := k.IntN(len(k.locals))
		return join(k.value(k.locals[n:n+1]), "21", digits(byte(n)))
	}
	return join(k.value(letter), "1a")
}

// address most often lies in a page.
func (k *maker) address() string {
	if k.IntN(8) == 0 {
		return k.value("i")
	}
	return join(k.value("i"), "413f 71")
}

// value leaves a value of the type, or nothing where there is none.
func (k *maker) value(letter string) string {
	if letter == "" {
		return ""
	}
	k.room--
	if k.room <= 0 {
		return k.number(letter)
	}
	switch k.IntN(10) {
	case 0:
		return k.block(letter)
	case 1:
		if code, ok := k.call(letter); ok {
			return code
		}
	case 2:
		if n := k.IntN(len(k.blocks)); k.carried(n) == letter {
			return join(k.value(letter), k.value("i"), "0d", digits(byte(n)))
		}
	case 3:
		return join(k.value(letter), k.value(letter), k.value("i"), "1b")
	case 4, 5:
		return k.local(letter)
	case 6:
		if k.IntN(6) == 0 {
			return k.leastBy(letter)
		}
	}
	return k.plain(letter)
}

// leastBy divides the least number, which is too great for -1.
func (k *maker) leastBy(letter string) string {
	if letter == "i" {
		return join("418080808078", k.value("i"), k.pick("6d", "6f"))
	}
	return join("428080808080808080807f", k.value("l"), k.pick("7f", "81"))
}

func (k *maker) local(letter string) string {
	for _, n := range k.Perm(len(k.locals)) {
		if k.locals[n:n+1] != letter {
			continue
		}
		if k.IntN(3) == 0 {
			return join(k.value(letter), "22", digits(byte(n)))
		}
		return join("20", digits(byte(n)))
	}
	return k.number(letter)
}

// plain leaves what an instruction of always the same types gives, or a global.
func (k *maker) plain(letter string) string {
	if letter == "" {
		return "01"
	}
	if k.IntN(6) == 0 {
		readable, _ := globalsOf(letter)
		n := 2 * k.IntN(len(readable)/2)
		return join("23", readable[n:n+2])
	}
	all := shapes()
	for {
		s := all[k.IntN(len(all))]
		if s.gives != letter {
			continue
		}
		if s.takes == "" && s.behind != "" || k.room <= 0 {
			return k.number(letter)
		}
		if s.op >= 0x28 && s.op <= 0x2d {
			return join(k.address(), digits(s.op), k.pick("00", "08"))
		}
		out := ""
		for _, c := range s.takes {
			out += k.value(string(c))
		}
		return join(out, digits(s.op), s.behind)
	}
}

// TestMadeModules makes many calls of modules by chance, and wants each trap to be met.
func TestMadeModules(t *testing.T) {
	met := map[api.Trap]int{}
	for seed := range uint64(300) {
		data := made(seed)
		m := good(t, data)
		s := stoker.NewStore()
		instances := []*stoker.Instance{s.Start(m), s.Start(m)}
		for _, c := range callsOf(m) {
			_, results, _ := m.Type(c.f)
			i, beside := instances[c.which], instances[1-c.which]
			memory, globals := beside.Memory(), beside.Globals()
			got := holds(t, data, s, i, c.f, c.args, c.fuel)
			narrowResult(t, data, results, got)
			hasMemory(t, beside, memory)
			hasGlobals(t, beside, globals...)
			met[got.Trap]++
		}
	}
	for trap := api.None; trap <= api.Keys; trap++ {
		if met[trap] < 5 {
			t.Errorf("trap %d was met too seldom: %v", trap, met)
		}
	}
}
