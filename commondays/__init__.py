"""Commondays: when were two copies last the same?"""
