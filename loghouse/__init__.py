"""Loghouse decides, for all days at once, who can know what. Import from its modules."""
