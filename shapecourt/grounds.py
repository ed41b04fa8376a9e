"""What is asked of a book again and again, laid out once."""

from shapecourt.kinds import NUM, all_got, plain_values


class Ground:
    """The kind and the fields of each make of a book, the makes of each kind that come, plain values."""

    def __init__(self, book):
        plain = plain_values(book)
        makes_met = [(name, fields, kind) for kind, makes in book for name, fields in makes]
        self.plain = plain
        self.kinds = {name: kind for name, fields, kind in makes_met}
        self.fields = {name: fields for name, fields, kind in makes_met}
        self.coming = {kind: tuple([name for name, fields in makes if all_got(fields, plain)]) for kind, makes in book}
        self.coming[NUM] = ()

    def comes(self, make):
        """Whether a make of the book comes."""
        return make in self.coming[self.kinds[make]]

    def sole(self, kind):
        """The only make that comes of a kind, or None."""
        coming = self.coming[kind]
        return coming[0] if len(coming) == 1 else None
