"""Games in tables, with a paper for every answer."""
