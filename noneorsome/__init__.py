"""Plans for piles of unknown size. Everything is imported from the modules of this package."""
