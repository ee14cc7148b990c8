"""What recursive rules lead to, compared for all lots of facts."""
