"""Lookrows: files that are replaced one by one and read one by one."""
