"""Termshelf: shelves of terms that are asked for terms alike."""
