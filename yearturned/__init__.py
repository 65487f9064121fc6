"""A year's ledger turned into the next one by a script."""
