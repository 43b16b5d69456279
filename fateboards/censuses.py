"""Censuses: how many there are of each form."""

from fateboards.cells import made_normal
from fateboards.tracks import form_of_track


class FormCounter:
    """Counts the tracks of one rule by their forms, which are kept, since the same boards come again and again."""

    def __init__(self):
        self.forms = {}
        self.counts = {}

    def include(self, tracks):
        """Counts some tracks more."""
        for track in tracks:
            form = self._form_of(track)
            self.counts[form] = self.counts.get(form, 0) + 1

    def _form_of(self, track):
        shape = made_normal(track.phases[0])[0]
        if shape not in self.forms:
            self.forms[shape] = form_of_track(track)
        return self.forms[shape]

    def census(self):
        """The ascending tuple of the forms and how many there are of each."""
        return tuple(sorted(self.counts.items()))


def census_of(tracks):
    """The census of some tracks of one rule."""
    counter = FormCounter()
    counter.include(tracks)
    return counter.census()
