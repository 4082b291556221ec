"""A water plant: two carbon filters, a loop with taps, every batch traced."""
