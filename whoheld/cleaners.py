"""Cleaners: houses that clean their pages."""

from whoheld.errors import InvalidView, NoPage, NotDead
from whoheld.horizons import horizon_of
from whoheld.houses import House
from whoheld.names import is_below, is_place


class Cleaner(House):
    """A house that cleans its pages."""

    def __init__(self, *, pages=8):
        super().__init__(pages=pages)

    @property
    def heard(self):
        """The word in force, or None."""
        return self._state.word_in_force

    @property
    def horizon(self):
        """The horizon of a row that would be written now."""
        return horizon_of(self.open_views(), self.heard, len(self._state))

    @property
    def local_horizon(self):
        """The horizon without the word."""
        return horizon_of(self.open_views(), None, len(self._state))

    def clean(self, *pages):
        """Cleans these pages, or all that are in use, and returns the tuple of what became of each."""
        for page in pages:
            self._need_page(page)
        chosen = sorted(set(pages)) if len(pages) > 0 else self._used_pages()
        told = []
        for page in chosen:
            removed, marked = self._state.cleaned(page, self.horizon)
            self._enter(("clean", page, removed, marked))
            told.append((page, removed, marked))
        return tuple(told)

    def tidy(self, page, *slots):
        """Removes the versions in these slots and returns the ascending tuple of the slots."""
        self._need_page(page)
        dead, _ = self._state.cleaned(page, self.local_horizon)
        chosen = []
        for slot in slots:
            if not is_place(slot) or slot not in dead or slot in chosen:
                raise NotDead(slot)
            chosen.append(slot)
        removed = tuple(sorted(chosen))
        if len(removed) > 0:
            self._enter(("tidy", page, removed))
        return removed

    def sweep(self):
        """Makes all slots with stubs free and returns how many they were."""
        stubs = self._state.stubs
        if stubs > 0:
            self._enter(("sweep",))
        return stubs

    def hear(self, word):
        """Writes what a far copy said: its oldest view, or None."""
        if word is not None and not is_below(word, len(self._state) + 1):
            raise InvalidView(word)
        self._enter(("word", word))

    def _need_page(self, page):
        if not is_below(page, self._page_count):
            raise NoPage(page)

    def _used_pages(self):
        return [page for page, images in enumerate(self._state.pages) if any([image is not None for image in images])]
