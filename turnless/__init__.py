"""Turnless: problems of clauses, all their turns, and answers of which none is a turn of another."""
