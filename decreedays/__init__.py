"""decreedays: calendars changed by decrees."""
