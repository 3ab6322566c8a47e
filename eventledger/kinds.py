"""Kinds of events: their versions, and the upcasts that lead from a version to later ones."""

from eventledger.agreeing import agreement
from eventledger.errors import Backward, BadName, NoKind, NoVersion, NoWay, Strange, Twice, Unlike, WrongEnd
from eventledger.forms import fits, is_form, is_name, is_whole
from eventledger.steps import done, form_behind, kept_steps


class Kinds:
    """The forms of each kind, numbered from 1 on, and upcasts between them, of which all ways agree."""

    def __init__(self):
        self._forms = {}
        # For each kind, the steps from one version to another one by (start, end).
        self._upcasts = {}
        # For each kind and each of its versions the steps of a way to each version it leads to;
        # of several ways one is enough, since all of them make the same.
        self._ways = {}

    def form(self, kind, form):
        """Let in a form as the next version of its kind, which is told."""
        self.need_form(kind, form)
        version = self.versions(kind) + 1
        if version == 1:
            self._forms[kind] = []
            self._upcasts[kind] = {}
            self._ways[kind] = {}
        self._forms[kind].append(form)
        self._ways[kind][version] = {version: ()}
        return version

    def need_form(self, kind, form):
        """Refuse what is no name of a kind, or no form."""
        if not is_name(kind):
            raise BadName()
        if not is_form(form):
            raise Strange()

    def upcast(self, kind, start, end, steps):
        """Let in an upcast from a version of the kind to a later one."""
        self.need_upcast(kind, start, end, steps)
        self.add_upcast(kind, start, end, kept_steps(steps))

    def need_upcast(self, kind, start, end, steps):
        """Refuse what is no upcast, or one by which two ways part."""
        early = self.form_of(kind, start)
        late = self.form_of(kind, end)
        if end <= start:
            raise Backward()
        if (start, end) in self._upcasts[kind]:
            raise Twice()
        if dict(form_behind(early, steps)) != dict(late):
            raise WrongEnd()
        self._need_alike(kind, start, end, steps)

    def add_upcast(self, kind, start, end, steps):
        """Let in an upcast, kept steps, of which it is known that it isn't refused."""
        upcasts = self._upcasts[kind]
        upcasts[(start, end)] = steps
        ways = self._ways[kind]
        self._ways[kind] = {
            version: _ways_from(upcasts, version) if start in ways[version] else ways[version] for version in ways}

    def _need_alike(self, kind, start, end, steps):
        """Refuse with Unlike an upcast by which two ways part."""
        pairs = self._pairs_led(kind, start, end)
        # Where the ways between two versions agree, so do those that lead on from both, as the elder
        # ways are all alike; so all pairs are looked at only where one is to be told.
        if all([self._witness(kind, start, end, steps, pair) is None for pair in self._inmost(kind, pairs)]):
            return
        for version, late in pairs:
            witness = self._witness(kind, start, end, steps, (version, late))
            if witness is not None:
                raise Unlike(version, late, witness)

    def _pairs_led(self, kind, start, end):
        """The pairs of versions, rising, that an elder way joins, and a new one by an upcast from start to end."""
        ways = self._ways[kind]
        return [
            (version, late) for version in sorted(ways) for late in sorted(ways[end])
            if start in ways[version] and late in ways[version]]

    def _inmost(self, kind, pairs):
        """Those of the pairs within which there is no other one, by ways between them."""
        ways = self._ways[kind]
        return [
            (version, late) for version, late in pairs
            if not any([
                (inner, inner_late) != (version, late) and inner in ways[version] and late in ways[inner_late]
                for inner, inner_late in pairs])]

    def _witness(self, kind, start, end, steps, pair):
        """Values by which the elder way between the pair and that by the new upcast part, None where they agree."""
        version, late = pair
        ways = self._ways[kind]
        # All ways by the new upcast agree where the elder ones do, so one is looked at.
        by_it = (*ways[version][start], *steps, *ways[end][late])
        word, told = agreement(self.form_of(kind, version), ways[version][late], by_it)
        return told if word == "differ" else None

    def versions(self, kind):
        """How many versions the kind has, 0 of others."""
        return len(self._forms[kind]) if self._is_kind(kind) else 0

    def _is_kind(self, thing):
        """Whether it is one of the kinds; told of anything."""
        return isinstance(thing, str) and thing in self._forms

    def form_of(self, kind, version):
        """The form of a version."""
        if not self._is_kind(kind):
            raise NoKind(kind)
        if not is_whole(version) or not 1 <= version <= self.versions(kind):
            raise NoVersion(kind, version)
        return self._forms[kind][version - 1]

    def raised(self, kind, version, values, *, to=None):
        """The values raised from their version to another one, the newest where none is told."""
        early = self.form_of(kind, version)
        late_version = self.versions(kind) if to is None else to
        late = self.form_of(kind, late_version)
        if not fits(early, values):
            raise Strange()
        steps = self.way(kind, version, late_version)
        if steps is None:
            raise NoWay(version, late_version)
        behind = form_behind(early, steps)
        held = {field: value for (field, _), value in zip(behind, done(early, steps, values))}
        return tuple([held[field] for field, _ in late])

    def is_way(self, kind, start, end):
        """Whether a way leads from the one version to the other one."""
        return self.way(kind, start, end) is not None

    def way(self, kind, start, end):
        """The steps of a way from the one version to the other one, None where there is none."""
        self.form_of(kind, start)
        self.form_of(kind, end)
        return self._ways[kind][start].get(end)


def _ways_from(upcasts, start):
    """The steps of the shortest way from the start to each version that it leads to."""
    ways = {start: ()}
    # Upcasts lead to later versions, so no way to a version is left to find when its own go on.
    for early, late in sorted(upcasts):
        steps = upcasts[(early, late)]
        if early in ways and (late not in ways or len(ways[early]) + len(steps) < len(ways[late])):
            ways[late] = (*ways[early], *steps)
    return ways
