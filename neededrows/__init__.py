"""Networks of comparers, and the rows that show what they do."""
