"""Paidbyheirs: what each deed must pay when versions have many heirs."""
