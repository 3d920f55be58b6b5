"""Clausehold: a solver of clauses whose answers come with papers."""
