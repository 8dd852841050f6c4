package req_test

import (
	"regexp"
	"strconv"
	"strings"

	"tallboy/api"
)

var (
	plainNumber = regexp.MustCompile(`^(0|-?[1-9][0-9]{0,17})$`)

	// A run of backslashes in '...' takes with it the byte behind it, be that a quote.
	oneWord = regexp.MustCompile(`(?s)^([^ \t\x00"']*)(?:"((?:[^"\\]|\\.)*)"|'((?:[^'\\]|\\+[^\\])*)')?(?:[ \t\x00]|$)`)
	aPair   = regexp.MustCompile(`(?s)\\(.)`)
)

// readWords is a second reading of Words.
func readWords(line string) ([]string, bool) {
	var words []string
	for {
		line = strings.TrimLeft(line, " \t\x00")
		if line == "" {
			return words, len(words) <= api.MaxArgs
		}
		m := oneWord.FindStringSubmatch(line)
		if m == nil {
			return nil, false
		}
		double := aPair.ReplaceAllStringFunc(m[2], func(s string) string {
			if i := strings.Index("nrt", s[1:]); i >= 0 {
				return "\n\r\t"[i : i+1]
			}
			return s[1:]
		})
		words = append(words, m[1]+double+strings.ReplaceAll(m[3], `\'`, `'`))
		line = line[len(m[0]):]
	}
}

// machine is a second reading of Next: it takes bytes one by one, and keeps where it is between them.
type machine struct {
	state func(m *machine, x byte)
	held  string // of the part that has begun
	size  int    // of the bulk that has begun
	left  int    // words to come
	words []string

	taken, at int // bytes of requests that are whole; bytes in all
	each      []found
	wrong     bool
}

// found is a whole request, and where it ends.
type found struct {
	words []string
	end   int
}

func newMachine() *machine {
	return &machine{state: begin}
}

func (m *machine) feed(x byte) {
	m.at++
	if !m.wrong {
		m.held += string([]byte{x})
		m.state(m, x)
	}
}

// done ends a request.
func (m *machine) done() {
	m.each = append(m.each, found{m.words, m.at})
	m.taken, m.words, m.held, m.state = m.at, nil, "", begin
}

func begin(m *machine, x byte) {
	if x == '*' {
		m.held, m.state = "", count
		return
	}
	m.state = inline
	inline(m, x)
}

func inline(m *machine, x byte) {
	if x != '\n' {
		m.wrong = len(m.held) > 4096
		return
	}
	ok := false
	m.words, ok = readWords(strings.TrimSuffix(m.held[:len(m.held)-1], "\r"))
	if m.wrong = !ok; ok {
		m.done()
	}
}

// number takes a byte of a line, and tells whether that is whole.
func (m *machine) number(least, most int) (int, bool) {
	line, whole := strings.CutSuffix(m.held, "\r\n")
	if !whole {
		m.wrong = len(m.held) > 32
		return 0, false
	}
	n, _ := strconv.Atoi(line)
	m.wrong = !plainNumber.MatchString(line) || n < least || n > most
	m.held = ""
	return n, !m.wrong
}

func count(m *machine, _ byte) {
	if n, ok := m.number(-1, 256); ok {
		m.left = max(n, 0)
		m.next()
	}
}

// next goes on to the next word, if one is to come.
func (m *machine) next() {
	m.held, m.state = "", dollar
	if m.left == 0 {
		m.done()
	}
}

func dollar(m *machine, x byte) {
	m.held, m.state, m.wrong = "", length, x != '$'
}

func length(m *machine, _ byte) {
	if n, ok := m.number(0, 65536); ok {
		m.size, m.state = n, bulk
	}
}

func bulk(m *machine, _ byte) {
	if len(m.held) < m.size+2 {
		return
	}
	if m.wrong = m.held[m.size:] != "\r\n"; !m.wrong {
		m.words = append(m.words, m.held[:m.size])
		m.left--
		m.next()
	}
}

// first is what Next must tell of what the machine was fed with.
func (m *machine) first() ([]string, int, api.Code) {
	switch {
	case len(m.each) > 0:
		return m.each[0].words, m.each[0].end, api.OK
	case m.wrong:
		return nil, 0, api.ErrProto
	}
	return nil, 0, api.OK
}

// all is what All must tell.
func (m *machine) all() ([][]string, int, api.Code) {
	var l [][]string
	for _, x := range m.each {
		if len(x.words) > 0 {
			l = append(l, x.words)
		}
	}
	if m.wrong {
		return l, m.taken, api.ErrProto
	}
	return l, m.taken, api.OK
}
