package copying

import (
	"strings"

	"pileup/api"
)

// maxCode is how many signs a code has at most.
const maxCode = 5

// codes are the codes of all characters, by their keys.
var codes = [len(characters)]string{
	".-", "-...", "-.-.", "-..", ".", "..-.", "--.", "....", "..", ".---", "-.-", ".-..", "--",
	"-.", "---", ".--.", "--.-", ".-.", "...", "-", "..-", "...-", ".--", "-..-", "-.--", "--..",
	"-----", ".----", "..---", "...--", "....-", ".....", "-....", "--...", "---..", "----.",
	"-..-.",
}

// families are the characters that sound alike.
var families = [...]string{"BCDEGPTVZ3", "AHJK8", "FLMNSX7", "IY59", "QUW2", "O014", "R6/"}

// keysByCode returns the key of each code.
func keysByCode() map[string]key {
	keys := map[string]key{}
	for k, code := range codes {
		keys[code] = key(k)
	}
	return keys
}

// familyOf returns the index of the family of a character.
func familyOf(k key) int {
	for i, f := range families {
		if strings.IndexByte(f, characters[k]) >= 0 {
			return i
		}
	}
	return len(families)
}

// Code returns the code of a character.
func Code(c string) (string, api.Errno) {
	k, e := readKey(c)
	if e != api.OK {
		return "", e
	}
	return codes[k], api.OK
}

// Char returns the character with a code.
func Char(code string) (string, api.Errno) {
	k, has := keysByCode()[code]
	if !has {
		return "", api.ErrNone
	}
	return characters[k : k+1], api.OK
}

// Family returns the number of the family of a character.
func Family(c string) (int, api.Errno) {
	k, e := readKey(c)
	if e != api.OK {
		return 0, e
	}
	return familyOf(k) + 1, api.OK
}
