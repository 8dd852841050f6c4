package calls

import (
	"math"
	"slices"

	"tallboy/api"
	"tallboy/cmd"
	"tallboy/glob"
	"tallboy/num"
)

// usual is how much a scan tells at once that does not say how much.
const usual = 10

// Scan is what a scan asks for.
type Scan struct {
	Cursor  uint64
	Pattern string
	Count   int
}

// Matches tells whether the scan asks for a text. It is asked behind the scan, whose cursors hang on all that is gone through.
func (s Scan) Matches(text string) bool {
	return glob.Match(s.Pattern, text)
}

// Scan reads a scan's cursor and the words behind it, from the left up to the first that is refused.
func (c *Call) Scan(cursor string, words []string) (Scan, error) {
	from, ok := num.Cursor(cursor)
	if !ok {
		return Scan{}, c.Because(api.ErrCursor)
	}
	s := Scan{Cursor: from, Pattern: "*", Count: usual}
	var said []string
	for ; len(words) > 0; words = words[2:] {
		option := cmd.Lower(words[0])
		if len(words) == 1 || slices.Contains(said, option) {
			return Scan{}, c.Because(api.ErrSyntax)
		}
		if err := c.option(&s, option, words[1]); err != nil {
			return Scan{}, err
		}
		said = append(said, option)
	}
	return s, nil
}

// option notes an option and the word behind it.
func (c *Call) option(s *Scan, option, word string) error {
	switch option {
	case "match":
		s.Pattern = word
		return nil
	case "count":
		n, err := c.Number(word)
		if err != nil {
			return err
		}
		if n < 1 {
			return c.Because(api.ErrSyntax)
		}
		// An int may have fewer bits, and a scan has an end of its own far below.
		s.Count = int(min(n, math.MaxInt32))
		return nil
	}
	return c.Because(api.ErrSyntax)
}
