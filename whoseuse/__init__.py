"""What main and inner meters, read at unlike dates, tell of who pays for whose use."""
