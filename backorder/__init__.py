"""Backorder: a row put in order by the fewest moves of a told kind, and what shows that fewer won't do."""
