"""The errors of Benchdeal: none, as nothing is refused."""
