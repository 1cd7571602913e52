"""Rightchance: a database of facts with chances, and plans that are right on all tables."""
