package plural

import "hornbook/api"

// Table answers the categories of a language with their rules, in the order in which they are tried.
func Table(language string) []api.Category {
	switch language {
	case "en", "de":
		return []api.Category{
			category("one", "i = 1"),
		}
	case "fr":
		return []api.Category{
			category("one", "i = 0,1"),
		}
	case "ru":
		return []api.Category{
			category("one", "i % 10 = 1 and i % 100 != 11"),
			category("few", "i % 10 = 2..4 and i % 100 != 12..14"),
			category("many", "i % 10 = 0,5..9 or i % 100 = 11..14"),
		}
	case "pl":
		return []api.Category{
			category("one", "i = 1"),
			category("few", "i % 10 = 2..4 and i % 100 != 12..14"),
			category("many", "i % 10 = 0,1,5..9 or i % 100 = 12..14"),
		}
	case "cs":
		return []api.Category{
			category("one", "i = 1"),
			category("few", "i = 2..4"),
		}
	case "ar":
		return []api.Category{
			category("zero", "i = 0"),
			category("one", "i = 1"),
			category("two", "i = 2"),
			category("few", "i % 100 = 3..10"),
			category("many", "i % 100 = 11..99"),
		}
	case "sl":
		return []api.Category{
			category("one", "i % 100 = 1"),
			category("two", "i % 100 = 2"),
			category("few", "i % 100 = 3,4"),
		}
	case "cy":
		return []api.Category{
			category("zero", "i = 0"),
			category("one", "i = 1"),
			category("two", "i = 2"),
			category("few", "i = 3"),
			category("many", "i = 6"),
		}
	}
	return nil
}

// category answers a category with the rule that has this text.
func category(name, text string) api.Category {
	rule, _, _ := Parse(text)
	return api.Category{Name: name, Rule: rule}
}
