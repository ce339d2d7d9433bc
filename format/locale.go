package format

import (
	"strings"

	"hornbook/api"
)

const dash = "-" // what stands between the parts of a locale

// Locale tells whether a text is a locale.
func Locale(s string) bool {
	if len(s) > api.MaxWord {
		return false
	}
	for _, part := range strings.Split(s, dash) {
		if part == "" || strings.ContainsFunc(part, foreign) {
			return false
		}
	}
	return true
}

// Language answers the first part of a locale.
func Language(locale string) string {
	if !Locale(locale) {
		return ""
	}
	language, _, _ := strings.Cut(locale, dash)
	return language
}

// Chain answers the locales whose messages may stand for those of a locale, in the order in which they are asked: the empty one, which is no locale, comes last.
func Chain(locale string) []string {
	if locale != "" && !Locale(locale) {
		return nil
	}
	var chain []string
	for locale != "" {
		chain = append(chain, locale)
		locale = locale[:max(0, strings.LastIndex(locale, dash))]
	}
	return append(chain, "")
}

// foreign tells whether a character may not stand in a part of a locale.
func foreign(c rune) bool {
	return (c < 'a' || c > 'z') && (c < 'A' || c > 'Z') && (c < '0' || c > '9')
}
