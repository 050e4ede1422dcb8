"""Documents woven for reading."""
