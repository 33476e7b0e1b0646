"""Webs without short rings: how few places can a web have?"""
