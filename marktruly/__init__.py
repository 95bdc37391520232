"""Marktruly: marks in drawn texts that change no chance, and find as much as any marks could."""
