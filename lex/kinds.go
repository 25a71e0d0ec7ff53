package lex

import "strings"

// kind tells of a byte whether it is of a kind.
type kind func(c byte) bool

// run: the place behind all bytes of a kind that stand from a place on.
func run(b []byte, at int, is kind) int {
	for stands(b, at, is) {
		at++
	}
	return at
}

// stands: does a byte of a kind stand at a place?
func stands(b []byte, at int, is kind) bool {
	return at < len(b) && is(b[at])
}

// among: those that a text has.
func among(set string) kind {
	return func(c byte) bool { return strings.IndexByte(set, c) >= 0 }
}

// between: those from a first to a last one.
func between(first, last byte) kind {
	return func(c byte) bool { return first <= c && c <= last }
}

// either: those of one of two kinds.
func either(one, other kind) kind {
	return func(c byte) bool { return one(c) || other(c) }
}

// but: those that aren't of a kind.
func but(is kind) kind {
	return func(c byte) bool { return !is(c) }
}

func blank() kind { return among(" \t\n\r") }

func digit() kind { return between('0', '9') }

func letter() kind {
	return either(among("_"), either(between('a', 'z'), between('A', 'Z')))
}

func minus() kind { return among("-") }

func quote() kind { return among("\"") }

// plain: those that may stand between quotes.
func plain() kind {
	return but(either(among("\"\\\x7f"), between(0, 31)))
}
