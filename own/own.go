// Package own makes copies that share nothing with what they are of: of what is handed in and kept, as whoever handed it
// in may change it later, and of what is kept and answered, as whoever is answered may change it.
package own

import (
	"slices"

	"stopgate/book"
	"stopgate/rules"
)

func Config(c rules.Config) rules.Config {
	c.Nodes = slices.Clone(c.Nodes)
	c.Accounts = slices.Clone(c.Accounts)
	c.Symbols = slices.Clone(c.Symbols)
	return c
}

func Book(b book.Book) book.Book {
	b.Open = slices.Clone(b.Open)
	b.Rows = slices.Clone(b.Rows)
	for i, r := range b.Rows {
		b.Rows[i].Numbers = slices.Clone(r.Numbers)
	}
	return b
}
