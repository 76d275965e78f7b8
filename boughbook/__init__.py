"""Boughbook: books that turn trees into trees."""
