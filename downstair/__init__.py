"""Downstair: a machine with a tape led down, stair by stair, to one number, and up again."""
