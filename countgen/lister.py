"""Lister: lists the shapes that there are by a book, each with its one maker."""

from countgen.books import shape_of
from countgen.makers import AlikeMaker, ChoiceMaker, ManyMaker, PickMaker, RowMaker, TextMaker, UseMaker, WholeMaker
from countgen.shapes import parts_of


class Lister:
    def __init__(self, book):
        self.book = book
        self.makers = {}

    # Shapes that are equal have one maker, so that no count is reckoned twice.
    def maker_of(self, shape):
        if shape not in self.makers:
            if shape[0] == "use":
                self.add_use(shape)
            else:
                self.makers[shape] = self.new_maker(shape)
        return self.makers[shape]

    def add_use(self, shape):
        maker = UseMaker()
        # Listed ahead of its name's maker, which may ask for it.
        self.makers[shape] = maker
        maker.named = self.maker_of(shape_of(self.book, shape[1]))

    def new_maker(self, shape):
        kind = shape[0]
        if kind == "whole":
            return WholeMaker(shape[1], shape[2])
        if kind == "text":
            return TextMaker(shape[1])
        parts = [self.maker_of(part) for part in parts_of(shape)]
        if kind == "row":
            return RowMaker(parts)
        if kind == "pick":
            return PickMaker([mark for mark, part in shape[1]], parts)
        if kind == "many":
            return ManyMaker(parts[0])
        if kind == "alike":
            return AlikeMaker(parts[0], shape[2])
        return ChoiceMaker(parts[0], kind == "unlike")


# Made anew for each asking: nothing hangs on what was asked before.
def maker_for(book, shape):
    return Lister(book).maker_of(shape)
