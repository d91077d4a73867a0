"""The directory: links between words and groups, and the ways that lead along them."""

from whomaywhat.errors import AlreadyLinked, Circle, NotLinked


class Directory:
    """A set of links without a circle, and the count of the ways from each word to each group."""

    def __init__(self, links=()):
        self._links = {}
        self._counts = {}
        for member, group in links:
            self.join(member, group)

    def join(self, member, group):
        """Adds the link from the member to the group."""
        if (member, group) in self._links:
            raise AlreadyLinked(f"{member} belongs to {group} directly")
        if member == group or self.belongs(group, member):
            raise Circle(f"{group} would belong to itself")
        self._links[(member, group)] = True
        self._count_along(member, group, 1)

    def leave(self, member, group):
        """Removes the link from the member to the group."""
        if (member, group) not in self._links:
            raise NotLinked(f"{member} does not belong to {group} directly")
        del self._links[(member, group)]
        self._count_along(member, group, -1)

    def _count_along(self, member, group, sign):
        """Adds or takes away all ways that lead along this link."""
        # Without circles no way to the member and none from the group leads along the link,
        # so these counts are the same with and without it.
        starts = [(word, self.ways(word, member)) for word in self.members(member)]
        ends = [(above, self.ways(group, above)) for above in self.groups(group)]
        for word, before in [(member, 1), *starts]:
            for above, behind in [(group, 1), *ends]:
                self._change_count(word, above, sign * before * behind)

    def _change_count(self, word, group, change):
        counts = self._counts.setdefault(word, {})
        count = counts.get(group, 0) + change
        if count == 0:
            del counts[group]
        else:
            counts[group] = count

    def belongs(self, word, group):
        """True if a way leads from the word to the group."""
        return self.ways(word, group) > 0

    def ways(self, word, group):
        """The number of ways from the word to the group."""
        return self._counts.get(word, {}).get(group, 0)

    def members(self, group):
        """The words that belong to the group, a tuple in alphabetical order."""
        return tuple(sorted([word for word, counts in self._counts.items() if group in counts]))

    def groups(self, word):
        """The groups to which the word belongs, a tuple in alphabetical order."""
        return tuple(sorted(self._counts.get(word, {})))

    def links(self):
        """The links, a tuple of pairs in ascending order."""
        return tuple(sorted(self._links))
