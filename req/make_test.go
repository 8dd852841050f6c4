package req_test

import (
	"slices"
	"strconv"
	"strings"
	"testing"

	"tallboy/api"
	"tallboy/req"
)

// wantMake asks twice for bytes, which Next reads again if they keep to its bounds.
func wantMake(t *testing.T, want string, args ...string) {
	t.Helper()
	for range 2 {
		if got := string(req.Make(args...)); got != want {
			t.Errorf("P19.3: Make(%s): %q, want %q", cut(show(args)), cut(got), cut(want))
			return
		}
	}
	wantNext(t, "P19.3", want, args, len(want), api.OK)
	wantNext(t, "P19.3", want+"x", args, len(want), api.OK)
	wantNext(t, "P19.3", want[:len(want)-1], nil, 0, api.OK)
}

func TestMake(t *testing.T) {
	wantMake(t, "*0\r\n")
	wantMake(t, "*0\r\n", []string{}...)
	wantMake(t, "*1\r\n$0\r\n\r\n", "")
	wantMake(t, "*2\r\n$0\r\n\r\n$0\r\n\r\n", "", "")
	wantMake(t, "*1\r\n$4\r\nPING\r\n", "PING")
	wantMake(t, "*2\r\n$1\r\na\r\n$0\r\n\r\n", "a", "")
	wantMake(t, "*3\r\n$3\r\nSET\r\n$1\r\na\r\n$2\r\n\r\n\r\n", "SET", "a", "\r\n")
	wantMake(t, "*1\r\n$10\r\n0123456789\r\n", "0123456789")
	wantMake(t, "*1\r\n$11\r\n*1\r\n$1\r\na\r\n\r\n", "*1\r\n$1\r\na\r\n")
	wantMake(t, "*1\r\n$2\r\n\xff\x00\r\n", "\xff\x00")
	wantMake(t, "*1\r\n$2\r\n\u00e9\r\n", "\u00e9")
}

func TestMakeOfAnyWords(t *testing.T) {
	var all []byte
	for x := range 256 {
		s := string([]byte{byte(x)})
		wantMake(t, "*1\r\n$1\r\n"+s+"\r\n", s)
		all = append(all, byte(x))
	}
	wantMake(t, "*1\r\n$256\r\n"+string(all)+"\r\n", string(all))
	for _, x := range oddTexts {
		for _, y := range oddTexts {
			wantMake(t, "*2\r\n$"+strconv.Itoa(len(x))+"\r\n"+x+"\r\n$"+strconv.Itoa(len(y))+"\r\n"+y+"\r\n", x, y)
		}
	}
}

func TestMakeOfMany(t *testing.T) {
	for _, n := range []int{9, 10, 11, 99, 100, 255, api.MaxArgs} {
		wantMake(t, "*"+strconv.Itoa(n)+"\r\n"+strings.Repeat("$1\r\na\r\n", n), slices.Repeat([]string{"a"}, n)...)
	}
	long := strings.Repeat("x\r\n", api.MaxBulk)
	for _, n := range []int{99, 100, 4096, api.MaxBulk} {
		wantMake(t, "*1\r\n$"+strconv.Itoa(n)+"\r\n"+long[:n]+"\r\n", long[:n])
	}
}

func TestMakeBeyondBounds(t *testing.T) {
	// It writes what Next does not take.
	for _, n := range []int{api.MaxArgs + 1, 1000, 70000} {
		want := "*" + strconv.Itoa(n) + "\r\n" + strings.Repeat("$1\r\na\r\n", n)
		if got := string(req.Make(slices.Repeat([]string{"a"}, n)...)); got != want {
			t.Errorf("P19.3: Make of %d words: %q", n, cut(got))
		}
		wantNext(t, "P19.1", want, nil, 0, api.ErrProto)
	}
	for _, n := range []int{api.MaxBulk + 1, 1 << 20} {
		want := "*1\r\n$" + strconv.Itoa(n) + "\r\n" + strings.Repeat("x", n) + "\r\n"
		if got := string(req.Make(strings.Repeat("x", n))); got != want {
			t.Errorf("P19.3: Make of %d bytes: %q", n, cut(got))
		}
		wantNext(t, "P19.1", want, nil, 0, api.ErrProto)
	}
}
