"""Who is let in where only so many have a place at once."""
