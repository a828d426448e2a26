package own_test

import (
	"reflect"
	"testing"

	"stopgate/book"
	"stopgate/own"
	"stopgate/rules"
	"stopgate/tree"
)

func config() rules.Config {
	return rules.Config{
		Shards: 1, Window: 2, Rate: 3, Table: 4, Nodes: []tree.Node{{Parent: -1, Cap: 5}, {Cap: 6}},
		Accounts: []int{0, 1}, Symbols: []rules.Symbol{{Price: 7, Qty: 8, Worth: 9, Band: 0.5}},
	}
}

func open() book.Book {
	return book.Book{
		Shard: 1, Came: 2, Rows: []book.Row{{Numbers: []int64{3, 4}, Second: 5, Count: 6}, {}, {Numbers: []int64{7}}},
		Open: []book.Entry{{Id: 8, Left: 9, State: book.Live, Epoch: 10}},
	}
}

// Rule 4: a copy is the same, and stays so whatever becomes of the other one.
func TestConfig(t *testing.T) {
	for _, spoil := range []func(c rules.Config){
		func(c rules.Config) {},
		func(c rules.Config) { c.Nodes[1] = tree.Node{} },
		func(c rules.Config) { c.Accounts[1] = 0 },
		func(c rules.Config) { c.Symbols[0] = rules.Symbol{} },
	} {
		c := config()
		mine := own.Config(c)
		if spoil(c); !reflect.DeepEqual(mine, config()) {
			t.Errorf("%+v", mine)
		}
		c = config()
		if spoil(own.Config(c)); !reflect.DeepEqual(c, config()) {
			t.Errorf("%+v", c)
		}
	}
	own.Config(rules.Config{})
}

func TestBook(t *testing.T) {
	for _, spoil := range []func(b book.Book){
		func(b book.Book) {},
		func(b book.Book) { b.Rows[1].Count = 1 },
		func(b book.Book) { b.Rows[0].Numbers[1] = 0 },
		func(b book.Book) { b.Rows[2].Numbers[0] = 0 },
		func(b book.Book) { b.Open[0] = book.Entry{} },
	} {
		b := open()
		mine := own.Book(b)
		if spoil(b); !reflect.DeepEqual(mine, open()) {
			t.Errorf("%+v", mine)
		}
		b = open()
		if spoil(own.Book(b)); !reflect.DeepEqual(b, open()) {
			t.Errorf("%+v", b)
		}
	}
	own.Book(book.Book{})
}
