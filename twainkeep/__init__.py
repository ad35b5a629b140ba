"""Twainkeep: texts of two tongues kept in step."""
