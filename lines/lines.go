// Package lines is how lines of text are written, of steps and of what they are answered.
package lines

import "strings"

// Of is the line of the fields: blanks between them, and the end behind the last one.
func Of(fields ...string) string {
	return strings.Join(fields, " ") + "\n"
}

// Digits is the field of the bytes of b: an x, and two small digits for each of them.
func Digits(b string) string {
	const all = "0123456789abcdef"
	var field strings.Builder
	field.WriteByte('x')
	for at := range len(b) {
		field.WriteByte(all[b[at]>>4])
		field.WriteByte(all[b[at]&15])
	}
	return field.String()
}
