"""lateids: rows that a poller misses because they commit late."""
