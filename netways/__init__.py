"""Nets routed over the cells of a board; `netways.board.answers` is what is called from outside."""
