// Package syntax reads the texts of veil: schemas, views and rules.
package syntax

import (
	"strings"

	"veil/api"
)

// Table is a table's name and the types of its columns.
type Table struct {
	Name  string
	Types []Type
}

// Schema is tables, each name once.
type Schema []Table

// Find tells the place of the table of that name, or -1.
func (s Schema) Find(name string) int {
	for i, table := range s {
		if table.Name == name {
			return i
		}
	}
	return -1
}

// ReadSchema reads a schema. What is too long is refused ahead of being taken apart, as a text may be of any size.
func ReadSchema(text string) (Schema, error) {
	if strings.Count(text, ";") >= api.MaxTables {
		return nil, schemaFault("too many tables")
	}
	var schema Schema
	for i, part := range strings.Split(text, ";") {
		table, err := readTable(part)
		if err == nil && schema.Find(table.Name) >= 0 {
			err = schemaFault("a table of this name is there already")
		}
		if err != nil {
			return nil, &Place{Part: "table", Number: i + 1, Err: err}
		}
		schema = append(schema, table)
	}
	return schema, nil
}

// readTable copies the name, as a schema may be kept when the text is not.
func readTable(text string) (Table, error) {
	if strings.Count(text, " ") > api.MaxColumns {
		return Table{}, schemaFault("too many columns")
	}
	words := strings.Split(text, " ")
	if !IsName(words[0]) {
		return Table{}, schemaFault("no name")
	}
	types, err := readTypes(words[1:])
	return Table{Name: strings.Clone(words[0]), Types: types}, err
}

func readTypes(words []string) ([]Type, error) {
	if len(words) == 0 {
		return nil, schemaFault("no columns")
	}
	types := make([]Type, len(words))
	for i, word := range words {
		t, ok := readType(word)
		if !ok {
			return nil, &Place{Part: "column", Number: i + 1, Err: schemaFault("no type")}
		}
		types[i] = t
	}
	return types, nil
}

func schemaFault(what string) error {
	return &Fault{Errno: api.ErrSchema, What: what}
}
