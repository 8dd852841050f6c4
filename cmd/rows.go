package cmd

import "tallboy/api"

// What a row says of Write, and of Most where there is no end of its own.
const (
	reads  = false
	writes = true
	more   = api.MaxArgs
)

// count is how many commands there are. It is room alone: table does not hang on it.
const count = 81

// table puts all commands behind l, group by group. It is handed the room for them, as each request asks for it anew.
func table(l []Command) []Command {
	l = addStrings(l)
	l = addHashes(l)
	l = addSets(l)
	l = addLists(l)
	l = addKeys(l)
	return addConns(l)
}

func addStrings(l []Command) []Command {
	return append(l, []Command{
		{"get", 2, 2, reads, Strings},
		{"set", 3, 8, writes, Strings},
		{"setnx", 3, 3, writes, Strings},
		{"getset", 3, 3, writes, Strings},
		{"getdel", 2, 2, writes, Strings},
		{"append", 3, 3, writes, Strings},
		{"strlen", 2, 2, reads, Strings},
		{"incr", 2, 2, writes, Strings},
		{"decr", 2, 2, writes, Strings},
		{"incrby", 3, 3, writes, Strings},
		{"decrby", 3, 3, writes, Strings},
		{"getrange", 4, 4, reads, Strings},
		{"setrange", 4, 4, writes, Strings},
		{"getbit", 3, 3, reads, Strings},
		{"setbit", 4, 4, writes, Strings},
		{"bitcount", 2, 4, reads, Strings},
		{"mget", 2, more, reads, Strings},
		{"mset", 3, more, writes, Strings},
	}...)
}

func addHashes(l []Command) []Command {
	return append(l, []Command{
		{"hset", 4, more, writes, Hashes},
		{"hsetnx", 4, 4, writes, Hashes},
		{"hget", 3, 3, reads, Hashes},
		{"hmget", 3, more, reads, Hashes},
		{"hdel", 3, more, writes, Hashes},
		{"hexists", 3, 3, reads, Hashes},
		{"hlen", 2, 2, reads, Hashes},
		{"hkeys", 2, 2, reads, Hashes},
		{"hvals", 2, 2, reads, Hashes},
		{"hgetall", 2, 2, reads, Hashes},
		{"hincrby", 4, 4, writes, Hashes},
		{"hstrlen", 3, 3, reads, Hashes},
		{"hscan", 3, 7, reads, Hashes},
	}...)
}

func addSets(l []Command) []Command {
	return append(l, []Command{
		{"sadd", 3, more, writes, Sets},
		{"srem", 3, more, writes, Sets},
		{"sismember", 3, 3, reads, Sets},
		{"scard", 2, 2, reads, Sets},
		{"smembers", 2, 2, reads, Sets},
		{"smove", 4, 4, writes, Sets},
		{"sinter", 2, more, reads, Sets},
		{"sunion", 2, more, reads, Sets},
		{"sdiff", 2, more, reads, Sets},
		{"spop", 2, 2, writes, Sets},
		{"srandmember", 2, 2, reads, Sets},
		{"sscan", 3, 7, reads, Sets},
	}...)
}

func addLists(l []Command) []Command {
	return append(l, []Command{
		{"lpush", 3, more, writes, Lists},
		{"rpush", 3, more, writes, Lists},
		{"lpop", 2, 2, writes, Lists},
		{"rpop", 2, 2, writes, Lists},
		{"llen", 2, 2, reads, Lists},
		{"lrange", 4, 4, reads, Lists},
		{"lindex", 3, 3, reads, Lists},
		{"lset", 4, 4, writes, Lists},
		{"linsert", 5, 5, writes, Lists},
		{"lrem", 4, 4, writes, Lists},
		{"ltrim", 4, 4, writes, Lists},
		{"rpoplpush", 3, 3, writes, Lists},
	}...)
}

func addKeys(l []Command) []Command {
	return append(l, []Command{
		{"del", 2, more, writes, Keys},
		{"exists", 2, more, reads, Keys},
		{"type", 2, 2, reads, Keys},
		{"expire", 3, 3, writes, Keys},
		{"pexpire", 3, 3, writes, Keys},
		{"ttl", 2, 2, reads, Keys},
		{"pttl", 2, 2, reads, Keys},
		{"persist", 2, 2, writes, Keys},
		{"rename", 3, 3, writes, Keys},
		{"renamenx", 3, 3, writes, Keys},
		{"copy", 3, 3, writes, Keys},
		{"keys", 2, 2, reads, Keys},
		{"scan", 2, 8, reads, Keys},
		{"dbsize", 1, 1, reads, Keys},
		{"flushall", 1, 1, writes, Keys},
		{"randomkey", 1, 1, reads, Keys},
		{"object", 3, 3, reads, Keys},
	}...)
}

func addConns(l []Command) []Command {
	return append(l, []Command{
		{"ping", 1, 2, reads, Conns},
		{"echo", 2, 2, reads, Conns},
		{"hello", 1, 2, reads, Conns},
		{"multi", 1, 1, reads, Conns},
		{"exec", 1, 1, reads, Conns},
		{"discard", 1, 1, reads, Conns},
		{"watch", 2, more, reads, Conns},
		{"unwatch", 1, 1, reads, Conns},
		{"quit", 1, 1, reads, Conns},
	}...)
}
