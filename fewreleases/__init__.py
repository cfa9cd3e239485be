"""Fewreleases: upgrading services one after another with the fewest releases."""
