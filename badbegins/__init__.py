"""Badbegins: where badness began in a net of makes."""
