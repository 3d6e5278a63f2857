"""Numbers dealt without gaps: houses, their books and the holes in them."""
