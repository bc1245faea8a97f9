"""Tables that are pushed together: promises of tables, and who sits where."""
