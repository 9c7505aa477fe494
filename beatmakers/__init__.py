"""Beatmakers: who is liked more by more voters, and voters that make a told web of beats."""
