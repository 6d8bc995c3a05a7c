package rod_test

import (
	"strconv"
	"strings"
	"testing"

	"sedge/api"
	"sedge/rod"
)

// plain is the text of a number by its three units, without those that are 0.
func plain(n, great, middle int, letters string) string {
	var words []string
	for i, count := range []int{n / great, n % great / middle, n % middle} {
		if count > 0 {
			words = append(words, strconv.Itoa(count)+letters[i:i+1])
		}
	}
	if len(words) == 0 {
		return "0" + letters[2:]
	}
	return strings.Join(words, " ")
}

func numbers() []int {
	out := []int{99999, 100000, 123456789, 999999840, 999999960, 999999999, 1000000000}
	for n := range 5000 {
		out = append(out, n)
	}
	for n := 5000; n < 1000000000; n += n/7 + 3 {
		out = append(out, n)
	}
	return out
}

// P1.2, P1.9.
func TestAreaTexts(t *testing.T) {
	for _, n := range numbers() {
		want := plain(n, 160, 40, "arp")
		if got, e := rod.FormatArea(n); got != want || e != api.OK {
			t.Errorf("FormatArea(%d): %q, error %d, want %q", n, got, e, want)
		}
		if got, e := rod.ParseArea(want); got != n || e != api.OK {
			t.Errorf("ParseArea(%q): %d, error %d", want, got, e)
		}
	}
	for n, want := range map[int]string{0: "0p", 700: "4a 1r 20p", 40: "1r", 160: "1a", 161: "1a 1p", 200: "1a 1r", 1000000000: "6250000a"} {
		if got, e := rod.FormatArea(n); got != want || e != api.OK {
			t.Errorf("FormatArea(%d): %q, error %d, want %q", n, got, e, want)
		}
	}
}

// P1.2, P1.9.
func TestLengthTexts(t *testing.T) {
	for _, n := range numbers() {
		want := plain(n, 1000, 100, "fcl")
		if got, e := rod.FormatLength(n); got != want || e != api.OK {
			t.Errorf("FormatLength(%d): %q, error %d, want %q", n, got, e, want)
		}
		if got, e := rod.ParseLength(want); got != n || e != api.OK {
			t.Errorf("ParseLength(%q): %d, error %d", want, got, e)
		}
	}
	for n, want := range map[int]string{0: "0l", 1250: "1f 2c 50l", 100: "1c", 1000: "1f", 1001: "1f 1l", 1000000000: "1000000f"} {
		if got, e := rod.FormatLength(n); got != want || e != api.OK {
			t.Errorf("FormatLength(%d): %q, error %d, want %q", n, got, e, want)
		}
	}
}

// P1.2: numbers out of range.
func TestFormatErrors(t *testing.T) {
	for _, n := range append([]int{-1, -160, 1000000001}, farNumbers...) {
		if s, e := rod.FormatArea(n); s != "" || e != api.ErrArg {
			t.Errorf("FormatArea(%d): %q, error %d", n, s, e)
		}
		if s, e := rod.FormatLength(n); s != "" || e != api.ErrArg {
			t.Errorf("FormatLength(%d): %q, error %d", n, s, e)
		}
	}
}

// P1.2: texts that no area and no length has.
func TestParseErrors(t *testing.T) {
	areas := []string{
		"0a", "0r", "1a 0p", "0a 1p", "1a 0r 1p", "0r 1p", "00p", "01p", "1a 01p", "001a", "-1p", "-0p", "+1p", "+0p", "1a +1p",
		"4r", "5r", "40p", "41p", "1a 4r", "1r 40p", "160p", "1p 1a", "1r 1a", "1p 1r", "1p 1p", "1a 1a", "1a 1r 1r",
		"6250000a 1p", "6250000a 1r", "6250001a", "6249999a 3r 40p", "1000000001p", "1000000000p", "25000000r",
		"99999999999999999999a", "9223372036854775807p", "9223372036854775808p", "18446744073709551617p", "115292150460684697a", "18446744073709551616p", "115292150460684697a 96p",
		"9223372036854775807a", "18446744073709551617a", "1f", "1c", "1l", "1f 2c", "1A", "1P", "1perch", "1e1p", "0x1p", "1_0p", "1.0p", "１p", "1ap", "1pa", "1a,1p", "1a\t1p", "1a\u00a01p", "a1",
	}
	lengths := []string{
		"0f", "0c", "1f 0l", "0f 1l", "1f 0c 1l", "0c 1l", "00l", "01l", "1f 01l", "-1l", "-0l", "+1l", "+0l",
		"10c", "11c", "100l", "101l", "1f 10c", "1c 100l", "1000l", "1l 1f", "1c 1f", "1l 1c", "1l 1l", "1f 1f", "1f 1c 1c",
		"1000000f 1l", "1000000f 1c", "1000001f", "999999f 9c 100l", "1000000000l", "1000000001l", "10000000c",
		"99999999999999999999f", "9223372036854775807l", "18446744073709551617l", "9223372036854775807f", "18446744073709552f", "1a", "1r", "1p", "1a 2r", "1F", "1L", "1e1l", "0x1l", "1_0l",
	}
	both := []string{"", " ", "  ", "0", "1", "1 ", " 1", "x", "a", "r", "p", "f", "c", "l", "-", "a r p", "f c l", "\n", "1 a", "1 f", "0p ", "0l ", " 0p", " 0l", "0p\n", "0l\n", "0p 0p", "0l 0l", "1a  1p", "1f  1l", "1a 1p ", "1f 1l ", " 1a 1p", " 1f 1l", "\x00", "\xff", "0\xff"}
	for _, s := range append(areas, both...) {
		if n, e := rod.ParseArea(s); n != 0 || e != api.ErrForm {
			t.Errorf("ParseArea(%q): %d, error %d", s, n, e)
		}
	}
	for _, s := range append(lengths, both...) {
		if n, e := rod.ParseLength(s); n != 0 || e != api.ErrForm {
			t.Errorf("ParseLength(%q): %d, error %d", s, n, e)
		}
	}
	long := strings.Repeat("1", 100000)
	for _, s := range []string{long, long + "a", strings.Repeat("1a ", 50000), strings.Repeat(" ", 50000), strings.Repeat("6250000a ", 3000) + "1p"} {
		if n, e := rod.ParseArea(s); n != 0 || e != api.ErrForm {
			t.Errorf("ParseArea of a long text: %d, error %d", n, e)
		}
		if n, e := rod.ParseLength(s); n != 0 || e != api.ErrForm {
			t.Errorf("ParseLength of a long text: %d, error %d", n, e)
		}
	}
}

// P1.2, P1.9: among all short texts, those that are read are those that are written.
func TestShortTexts(t *testing.T) {
	const letters = "0149 arpfclx-"
	var try func(s string, left int)
	try = func(s string, left int) {
		if n, e := rod.ParseArea(s); e == api.OK {
			if back, e := rod.FormatArea(n); back != s || e != api.OK {
				t.Errorf("ParseArea(%q): %d, whose text is %q", s, n, back)
			}
		} else if n != 0 || e != api.ErrForm {
			t.Errorf("ParseArea(%q): %d, error %d", s, n, e)
		}
		if n, e := rod.ParseLength(s); e == api.OK {
			if back, e := rod.FormatLength(n); back != s || e != api.OK {
				t.Errorf("ParseLength(%q): %d, whose text is %q", s, n, back)
			}
		} else if n != 0 || e != api.ErrForm {
			t.Errorf("ParseLength(%q): %d, error %d", s, n, e)
		}
		if left == 0 {
			return
		}
		for i := range letters {
			try(s+letters[i:i+1], left-1)
		}
	}
	try("", 5)
}
