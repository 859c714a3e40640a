"""Rules at a help desk: letters open tickets, and a book of rules works along."""
