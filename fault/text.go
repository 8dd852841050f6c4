package fault

import (
	"tallboy/api"
)

// Text tells a client what a code means; empty of OK and of numbers that are no codes.
func Text(c api.Code, cmd string) string {
	switch c {
	case api.ErrArity:
		return "ERR wrong number of arguments for '" + shown(cmd) + "' command"
	case api.ErrUnknown:
		return "ERR unknown command '" + shown(cmd) + "'"
	case api.ErrExpire:
		return "ERR invalid expire time in '" + shown(cmd) + "' command"
	}
	return plainText(c)
}

// plainText has the texts in which no command is named.
func plainText(c api.Code) string {
	switch c {
	case api.ErrSyntax:
		return "ERR syntax error"
	case api.ErrType:
		return "WRONGTYPE Operation against a key holding the wrong kind of value"
	case api.ErrInt:
		return "ERR value is not an integer or out of range"
	case api.ErrOver:
		return "ERR increment or decrement would overflow"
	case api.ErrNoKey:
		return "ERR no such key"
	case api.ErrIndex:
		return "ERR index out of range"
	case api.ErrRange:
		return "ERR value is out of range"
	case api.ErrBit:
		return "ERR bit is not an integer or out of range"
	case api.ErrLong:
		return "ERR string exceeds maximum allowed size"
	case api.ErrCursor:
		return "ERR invalid cursor"
	case api.ErrSame:
		return "ERR source and destination objects are the same"
	case api.ErrHashInt:
		return "ERR hash value is not an integer"
	case api.ErrProto:
		return "ERR Protocol error"
	case api.ErrNested:
		return "ERR MULTI calls can not be nested"
	case api.ErrNoExec:
		return "ERR EXEC without MULTI"
	case api.ErrNoDiscard:
		return "ERR DISCARD without MULTI"
	case api.ErrWatch:
		return "ERR WATCH inside MULTI is not allowed"
	case api.ErrAborted:
		return "EXECABORT Transaction discarded because of previous errors."
	case api.ErrBadProto:
		return "NOPROTO unsupported protocol version"
	case api.ErrFull:
		return "ERR too much"
	case api.ErrForm:
		return "ERR bad form"
	case api.ErrOffset:
		return "ERR offset is out of range"
	}
	return ""
}

// shown keeps a name on its line and between its quotes, whatever bytes a client sent as one.
func shown(cmd string) string {
	b := []byte(cmd)
	for i, c := range b {
		if c < 32 || c > 126 || c == '\'' {
			b[i] = '?'
		}
	}
	return string(b)
}
