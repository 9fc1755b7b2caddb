"""Benchdeal: seats dealt by votes, and prices that show that it is right."""
