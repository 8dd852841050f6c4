package req_test

import (
	"strconv"
	"strings"
	"testing"

	"tallboy/api"
	"tallboy/req"
)

func TestRunsAndExamples(t *testing.T) {
	wantAll(t, "PING\r\n", [][]string{{"PING"}}, 6, api.OK)
	wantNext(t, "P19.1", "*x\r\n", nil, 0, api.ErrProto)
	wantNext(t, "P19.1", "", nil, 0, api.OK)
	for _, from := range [][]byte{nil, {}} {
		if l, n, why := req.Next(from); len(l) != 0 || n != 0 || why != api.OK {
			t.Errorf("P19.1: Next of nothing: %v, %d, %v", l, n, why)
		}
	}
}

func TestNextOfEachFirstByte(t *testing.T) {
	for x := range 256 {
		first := string([]byte{byte(x)})
		switch first {
		case "*":
			wantWhole(t, "*1\r\n$1\r\na\r\n", "a")
		case "\n":
			wantNext(t, "P19.1", first, nil, 1, api.OK)
		case "\r":
			wantWhole(t, "\r\n")
			wantWhole(t, "\ra\r\n", "\ra")
		case "\"", "'":
			wantWhole(t, first+"1"+first+"\n", "1")
			wantProtoAt(t, first+"1\n", 3)
		case " ", "\t", "\x00":
			wantWhole(t, first+"1\r\n", "1")
			wantWhole(t, first+"\r\n")
		default:
			wantWhole(t, first+"1\r\n", first+"1")
			wantWhole(t, first+"\n", first)
		}
		if first != "\n" {
			wantPart(t, first)
		}
	}
}

func TestNextOfRequests(t *testing.T) {
	for from, words := range map[string][]string{
		"*1|$4|PING|":                       {"PING"},
		"*2|$3|GET|$1|a|":                   {"GET", "a"},
		"*1|$0||":                           {""},
		"*2|$0||$0||":                       {"", ""},
		"*2|$0||$1|\r|":                     {"", "\r"},
		"*1|$2|||":                          {"\r\n"},
		"*1|$1|\n|":                         {"\n"},
		"*1|$1|*|":                          {"*"},
		"*1|$1|$|":                          {"$"},
		"*1|$1|\x00|":                       {"\x00"},
		"*1|$6|\r\n\r\n\r\n|":               {"\r\n\r\n\r\n"},
		"*1|$10|0123456789|":                {"0123456789"},
		"*3|$1| |$1|\t|$3|\"a'|":            {" ", "\t", "\"a'"},
		"*2|$2|\xff\xfe|$2|\u00e9|":         {"\xff\xfe", "\u00e9"},
		"*10|" + strings.Repeat("$0||", 10): make([]string, 10),
	} {
		wantWhole(t, lines(from), words...)
	}
	inner := "*1\r\n$1\r\na\r\n"
	wantWhole(t, "*2\r\n$11\r\n"+inner+"\r\n$1\r\nb\r\n", inner, "b")
	wantProtoAt(t, "*1\r\n$10\r\n"+inner+"\r\n", 21)
	for _, s := range oddTexts {
		wantWhole(t, "*1\r\n$"+strconv.Itoa(len(s))+"\r\n"+s+"\r\n", s)
	}
}

func TestNextOfNoWords(t *testing.T) {
	for _, from := range []string{"*0|", "*-1|", "|", "\n", "  |", " \t\x00 \n", "\x00|", "\t\n"} {
		wantWhole(t, lines(from))
	}
	// What stands behind them is not asked.
	for _, from := range []string{"*0|", "*-1|"} {
		wantNext(t, "P19.1", lines(from)+"$1\r\na\r\n", nil, len(from)+1, api.OK)
		wantNext(t, "P19.1", lines(from)+"*x\r\n", nil, len(from)+1, api.OK)
	}
}

func TestNextOfCounts(t *testing.T) {
	word := "$1\r\na\r\n"
	words := func(n int) []string { return strings.Split(strings.Repeat("a", n), "") }
	for _, n := range []int{1, 2, 3, 9, 10, 11, 99, 100, 255, api.MaxArgs} {
		from := "*" + strconv.Itoa(n) + "\r\n" + strings.Repeat(word, n)
		wantWhole(t, from, words(n)...)
		wantWhole(t, strings.Replace(from, word, "$0\r\n\r\n", 1), append([]string{""}, words(n)[1:]...)...)
	}
	for _, s := range []string{"-2", "-3", "-10", "-256", "257", "258", "1000", "65536", "2147483647", "2147483648", "4294967296", "4294967297", "-4294967295", "9223372036854775807", "-9223372036854775808"} {
		wantProtoAt(t, "*"+s+"\r\n", len(s)+3)
		wantProto(t, "*"+s+"\r\n"+word+word)
	}
	wantPart(t, "*256\r\n")
	wantPart(t, "*256\r\n"+strings.Repeat(word, 255))
}

// noNumbers are lines that Parse refuses.
var noNumbers = []string{"", "+1", "+0", "-", "-0", "--1", "+", "00", "01", "007", "-01", "-00", " 1", "1 ", " ", "1 1", "\t1", "1\t", "\x001", "1\x00", "x", "1x", "x1", "1.0", "1e1", "0x1", "1_0", ",", "$1", "*1", "1\r", "\r1", "\r", "\n", "1\n", "\n1", "1\n\r", "9223372036854775808", "-9223372036854775809", "18446744073709551617", "99999999999999999999999999999999", "\xff", "\u0661", "\uff11"}

func TestNextOfNoNumbers(t *testing.T) {
	for _, s := range noNumbers {
		for _, begin := range []string{"*", "*1\r\n$", "*2\r\n$1\r\na\r\n$"} {
			wantProtoAt(t, begin+s+"\r\n", len(begin)+wrongAt(len(s)))
		}
	}
}

// wrongAt is how many bytes of a line without a number and its end must be there to tell that it has none: its 13 alone may be one too many.
func wrongAt(size int) int {
	return min(size+2, 33)
}

func TestNextOfLines(t *testing.T) {
	for _, begin := range []string{"*", "*1\r\n$", "*2\r\n$0\r\n\r\n$"} {
		for _, fill := range []string{"1", "0", "x", " ", "\r", "\n", "-", "\x00"} {
			for n := range 80 {
				line := strings.Repeat(fill, n)
				if n <= 32 {
					wantPart(t, begin+line)
				} else {
					wantProto(t, begin+line)
				}
				// Of few digits it may be a number in bounds.
				if fill != "1" && line != "0" || n == 0 || n > 5 {
					wantProtoAt(t, begin+line+"\r\n", len(begin)+wrongAt(n))
				}
			}
		}
		for n := range 33 {
			// One byte of the end is of the line, as long as the other one is not there.
			for _, x := range []string{"\r", "\n", "\n\r", "\r\r", "\ra", "\na", "a\r"} {
				line := strings.Repeat("1", n) + x
				if len(line) <= 32 {
					wantPart(t, begin+line)
				} else {
					wantProto(t, begin+line)
				}
			}
		}
	}
	// A byte of the end alone does not end the line.
	wantProtoAt(t, "*1\n$1\r\n", 7)
	wantProtoAt(t, "*1\r$1\r\n", 7)
	wantProtoAt(t, "*1\n\r$1\r\n", 8)
	wantPart(t, "*1\n$1\na\n")
	wantPart(t, "*1\r$1\ra\r")
	wantProtoAt(t, "*1\r\r\n$1\r\na\r\n", 5)
	wantProtoAt(t, "*1\r\n$1\ra\r\n", 10)
}

func TestNextOfDollars(t *testing.T) {
	for _, begin := range []string{"*1\r\n", "*2\r\n$1\r\na\r\n", "*3\r\n$0\r\n\r\n$2\r\n\r\n\r\n", "*256\r\n" + strings.Repeat("$1\r\na\r\n", 255)} {
		wantPart(t, begin)
		for x := range 256 {
			from := begin + string([]byte{byte(x)})
			if x == '$' {
				wantPart(t, from)
				continue
			}
			wantNext(t, "P19.1", from, nil, 0, api.ErrProto)
			wantNext(t, "P19.1", from+"1\r\na\r\n", nil, 0, api.ErrProto)
			wantNext(t, "P19.1", from+"$1\r\na\r\n", nil, 0, api.ErrProto)
		}
	}
}

func TestNextOfLengths(t *testing.T) {
	for _, n := range []int{0, 1, 2, 9, 10, 99, 100, 4096, 4097, 65535, api.MaxBulk} {
		s := strings.Repeat("b\r\n$*\x00", n)[:n]
		wantWhole(t, "*1\r\n$"+strconv.Itoa(n)+"\r\n"+s+"\r\n", s)
	}
	for _, s := range []string{"-1", "-2", "-65536", "65537", "65538", "100000", "2147483647", "2147483648", "4294967296", "4294967297", "-4294967295", "9223372036854775806", "9223372036854775807", "-9223372036854775808"} {
		for _, begin := range []string{"*1\r\n$", "*2\r\n$1\r\na\r\n$"} {
			wantProtoAt(t, begin+s+"\r\n", len(begin+s)+2)
		}
	}
	long := strings.Repeat("b", api.MaxBulk+1)
	wantProto(t, "*1\r\n$65537\r\n"+long+"\r\n")
	wantProto(t, "*1\r\n$65536\r\n"+long+"\r\n")
	wantWhole(t, "*2\r\n$65536\r\n"+long[1:]+"\r\n$65536\r\n"+long[1:]+"\r\n", long[1:], long[1:])
}

func TestNextOfBulkEnds(t *testing.T) {
	for _, s := range []string{"", "a", "\r", "\n", "\r\n", "ab\r", "0123456789", "\x00"} {
		begin := "*1\r\n$" + strconv.Itoa(len(s)) + "\r\n"
		for n := range len(s) + 1 {
			wantPart(t, begin+s[:n])
		}
		// One byte of the end tells nothing, whichever it is.
		for x := range 256 {
			first := string([]byte{byte(x)})
			wantPart(t, begin+s+first)
			for _, last := range []string{"\r", "\n", "x", "\x00", " "} {
				if first+last != "\r\n" {
					wantProto(t, begin+s+first+last)
				}
			}
			if first != "\n" {
				wantNext(t, "P19.1", begin+s+"\r"+first, nil, 0, api.ErrProto)
			}
		}
		wantNext(t, "P19.1", begin+s+"\r\n", []string{s}, len(begin+s)+2, api.OK)
		// The end is asked of each word, ahead of the sign of the next one.
		more := "*2" + begin[2:] + s
		wantPart(t, more+"\r")
		wantPart(t, more+"\r\n")
		wantProto(t, more+"x\n$1\r\na\r\n")
		wantProto(t, more+"\r\nx")
	}
}
