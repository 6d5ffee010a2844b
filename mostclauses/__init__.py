"""At most so many of many marks, said by clauses in several ways."""
