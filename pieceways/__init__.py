"""Pieceways: letters cut to pieces on the way, and put together again."""
