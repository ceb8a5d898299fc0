"""Letters lost, put in or made wrong at places that nobody knows."""
