package driver_test

import (
	"strings"
	"testing"

	"woofer/api"
	"woofer/driver"
)

// P3.1: Print and Parse of the same texts.
func TestTexts(t *testing.T) {
	for _, x := range []struct {
		d    driver.Driver
		text string
	}{
		{exampleA, "driver 6 0 2 1 4 1"},
		{greatest, "driver 50 10 20 100 5000 100"},
		{driver.Driver{Re: 1, Le: 2, Bl: 3, Mass: 4, Stiffness: 5, Loss: 6}, "driver 1 2 3 4 5 6"},
		{driver.Driver{Re: 1, Bl: 1, Mass: 1, Stiffness: 1, Loss: 1}, "driver 1 0 1 1 1 1"},
	} {
		want(t, "Print", x.text)(driver.Print(x.d))
		want(t, "Parse", x.d)(driver.Parse(x.text))
	}
}

// P3.1: strings that do not have the form of a text.
func TestParseSyntax(t *testing.T) {
	for _, s := range []string{
		"", " ", "driver", "driver ", "driver 6 0 2 1 4", "driver 6 0 2 1 4 ", "driver 6 0 2 1 4 1 ", "driver 6 0 2 1 4 1 1", " driver 6 0 2 1 4 1",
		"driver 6 0 2 1 4 1\n", "\ndriver 6 0 2 1 4 1", "driver  6 0 2 1 4 1", "driver 6 0 2  1 4 1", "driver\t6 0 2 1 4 1", "driver 6 0 2 1 4\t1",
		"Driver 6 0 2 1 4 1", "drive 6 0 2 1 4 1", "drivers 6 0 2 1 4 1", "6 0 2 1 4 1", "6 0 2 1 4 1 driver", "box 6 0 2 1 4 1", "driver6 0 2 1 4 1",
		strings.Repeat(" ", api.MaxText), "driver " + strings.Repeat("1 ", 2000) + "1", "driver 6 0 2 1 4 1" + strings.Repeat("\x00", 4000),
	} {
		fails[driver.Driver](t, "Parse of "+s, api.ErrSyntax)(driver.Parse(s))
	}
	for _, number := range []string{
		"-1", "+1", "-0", "01", "00", "x", "1x", "1.0", "1e1", "0x1", "1_0", "1000000000", "0000000001", "99999999999999999999", "", "\u0661", "1,", "½",
	} {
		for i := range 6 {
			words := strings.Split("6 0 2 1 4 1", " ")
			words[i] = number
			s := "driver " + strings.Join(words, " ")
			fails[driver.Driver](t, "Parse of "+s, api.ErrSyntax)(driver.Parse(s))
			// A number that is not in its range does not come before the form.
			words[(i+1)%6] = "999999999"
			s = "driver " + strings.Join(words, " ")
			fails[driver.Driver](t, "Parse of "+s, api.ErrSyntax)(driver.Parse(s))
		}
	}
}

// P3.1: texts of drivers that are none.
func TestParseRange(t *testing.T) {
	for _, s := range []string{
		"driver 0 0 2 1 4 1", "driver 51 0 2 1 4 1", "driver 6 11 2 1 4 1", "driver 6 0 0 1 4 1", "driver 6 0 21 1 4 1", "driver 6 0 2 0 4 1",
		"driver 6 0 2 101 4 1", "driver 6 0 2 1 0 1", "driver 6 0 2 1 5001 1", "driver 6 0 2 1 4 0", "driver 6 0 2 1 4 101", "driver 6 0 2 1 4 999999999",
	} {
		fails[driver.Driver](t, "Parse of "+s, api.ErrRange)(driver.Parse(s))
	}
}

// P3.1: strings that are too long, whatever they are.
func TestParseLong(t *testing.T) {
	for _, s := range []string{
		strings.Repeat(" ", api.MaxText+1), "driver 6 0 2 1 4 1" + strings.Repeat(" ", api.MaxText), "driver 6 0 2 1 4 " + strings.Repeat("9", api.MaxText),
	} {
		fails[driver.Driver](t, "Parse", api.ErrLong)(driver.Parse(s))
	}
}
