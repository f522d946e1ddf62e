package lex

import "strings"

// signs are the bytes that are signs by themselves; the only longer sign, "==", begins with one of them.
const signs = "(){};:,.=<+-*"

func isBlank(b byte) bool { return b == 9 || b == 10 || b == 13 || b == 32 }

func isSmall(b byte) bool { return 'a' <= b && b <= 'z' }

func isGreat(b byte) bool { return 'A' <= b && b <= 'Z' }

func isDigit(b byte) bool { return '0' <= b && b <= '9' }

func isSign(b byte) bool { return strings.IndexByte(signs, b) >= 0 }

// inName: may b stand in a name behind its first letter?
func inName(b byte) bool { return isSmall(b) || isGreat(b) || isDigit(b) || b == '_' }

// begins: may a token begin with b?
func begins(b byte) bool {
	return isSmall(b) || isGreat(b) || isDigit(b) || b == '"' || isSign(b)
}

// plain: may b stand between quotes, if it is neither a quote nor a backslash?
func plain(b byte) bool { return 32 <= b && b <= 126 }
