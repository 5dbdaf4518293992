"""Settlesfirst: who came first, settled without waiting."""
