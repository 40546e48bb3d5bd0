"""What each side knows of the cards."""
