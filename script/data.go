package script

import (
	"strings"

	"stint/api"
)

const (
	slash     = '\\' // ahead of what stands for a byte
	hexSign   = 'x'
	hexDigits = "0123456789abcdef"
)

// letters has the bytes that a slash and a letter stand for.
var letters = [...]struct{ letter, means byte }{
	{'s', ' '},
	{'r', '\r'},
	{'n', '\n'},
	{slash, slash},
}

// readData reads a word as bytes.
func readData(word string) []byte {
	left, ok := strings.CutPrefix(word, dataSign)
	if !ok {
		panic(api.ErrScriptField)
	}
	var data []byte
	for left != "" {
		c, size := readByte(left)
		data = append(data, c)
		left = left[size:]
	}
	return data
}

// readByte reads the byte that a piece of a word begins with, and tells how many bytes its form has.
func readByte(piece string) (byte, int) {
	if piece[0] != slash {
		return piece[0], 1
	}
	if len(piece) >= 4 && piece[1] == hexSign {
		return hexValue(piece[2])<<4 | hexValue(piece[3]), 4
	}
	if len(piece) >= 2 {
		for _, l := range letters {
			if l.letter == piece[1] {
				return l.means, 2
			}
		}
	}
	panic(api.ErrScriptField)
}

func hexValue(digit byte) byte {
	value := strings.IndexByte(hexDigits, digit)
	if value < 0 {
		panic(api.ErrScriptField)
	}
	return byte(value)
}

// shortest is the shortest form of a byte.
func shortest(c byte) string {
	for _, l := range letters {
		if l.means == c {
			return string([]byte{slash, l.letter})
		}
	}
	if c < '!' || c > '~' {
		return string([]byte{slash, hexSign, hexDigits[c>>4], hexDigits[c&15]})
	}
	return string([]byte{c})
}
