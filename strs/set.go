package strs

import (
	"math"

	"tallboy/api"
	"tallboy/cmd"
	"tallboy/num"
	"tallboy/reply"
)

// second is how many thousandths, in which times are told, a second has.
const second = 1000

// options are what a set says behind its text. Of each kind one may be said; it is empty if none was.
type options struct {
	only  string // nx or xx
	get   string
	until string // ex, px or keepttl
	wait  string // the word behind ex or px
}

// set lets a key have a text, if it is there or not as the options say.
func (c *call) set() (api.Reply, error) {
	key := c.Args[1]
	o, ok := readOptions(c.Args[3:])
	if !ok {
		return c.Refuse(api.ErrSyntax)
	}
	at, timed, err := c.expiry(key, o)
	if err != nil {
		return api.Reply{}, err
	}
	told := reply.OK()
	if o.get != "" {
		if told, err = c.get(key); err != nil {
			return api.Reply{}, err
		}
	}
	if o.only != "" && c.isThere(key) != (o.only == "xx") {
		if o.get == "" {
			told = null()
		}
		return told, nil
	}
	c.put(key, c.Args[2])
	if timed {
		c.Space.Expire(key, at, c.Now)
	}
	return told, nil
}

// readOptions answers false of words that are no options, and of what is said twice.
func readOptions(words []string) (options, bool) {
	var o options
	for i := 0; i < len(words); i++ {
		word := cmd.Lower(words[i])
		ok := false
		switch word {
		case "nx", "xx":
			ok = say(&o.only, word)
		case "get":
			ok = say(&o.get, word)
		case "ex", "px":
			i++
			if i == len(words) {
				return options{}, false
			}
			o.wait = words[i]
			fallthrough
		case "keepttl":
			ok = say(&o.until, word)
		}
		if !ok {
			return options{}, false
		}
	}
	return o, true
}

// say notes an option, and answers false if one of its kind was said already.
func say(said *string, word string) bool {
	if *said != "" {
		return false
	}
	*said = word
	return true
}

// expiry is until when key will be there, if the options set an end to it.
func (c *call) expiry(key string, o options) (at int64, timed bool, err error) {
	switch o.until {
	case "":
		return 0, false, nil
	case "keepttl":
		at, timed = c.Space.Expiry(key, c.Now)
		return at, timed, nil
	}
	n, err := c.Number(o.wait)
	if err != nil {
		return 0, false, err
	}
	at, ok := c.behind(n, o.until == "ex")
	if !ok {
		return 0, false, c.Because(api.ErrExpire)
	}
	return at, true, nil
}

// behind is the time that is n seconds or thousandths of one behind now; false of n below 1, and of a time that is no int64.
func (c *call) behind(n int64, seconds bool) (int64, bool) {
	if n < 1 {
		return 0, false
	}
	if seconds {
		if n > math.MaxInt64/second {
			return 0, false
		}
		n *= second
	}
	return num.Add(c.Now, n)
}
