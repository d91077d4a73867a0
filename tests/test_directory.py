import random
import unittest

from whomaywhat.directory import Directory
from whomaywhat.errors import AlreadyLinked, Circle, NotLinked

WORDS = ("a", "aa", "b", "c", "d", "e", "f", "zz")


def counted(links, word, group):
    """The number of ways, by walking all of them."""
    return sum(
        (1 if above == group else 0) + counted(links, above, group) for member, above in links if member == word
    )


class DirectoryTest(unittest.TestCase):
    def same_as_links(self, directory, links, words=WORDS):
        self.assertEqual(directory.links(), tuple(sorted(links)))
        for word in words:
            groups = tuple(group for group in sorted(words) if counted(links, word, group))
            members = tuple(member for member in sorted(words) if counted(links, member, word))
            self.assertEqual(directory.groups(word), groups)
            self.assertEqual(directory.members(word), members)
            for group in words:
                count = counted(links, word, group)
                self.assertEqual(directory.ways(word, group), count)
                self.assertIs(directory.belongs(word, group), count > 0)

    def test_the_examples(self):
        directory = Directory([("ann", "dev"), ("ann", "ops"), ("dev", "staff"), ("ops", "staff")])
        self.assertEqual(directory.ways("ann", "staff"), 2)
        directory = Directory([("ann", "dev"), ("dev", "staff")])
        with self.assertRaises(Circle):
            directory.join("staff", "ann")

    def test_no_links(self):
        for directory in (Directory(), Directory([]), Directory(())):
            self.assertEqual(directory.links(), ())
            self.assertEqual(directory.members("a"), ())
            self.assertEqual(directory.groups("a"), ())
            self.assertEqual(directory.ways("a", "b"), 0)
            self.assertIs(directory.belongs("a", "b"), False)
            self.assertEqual(directory.ways("a", "a"), 0)

    def test_chain(self):
        links = [("c", "d"), ("a", "b"), ("b", "c")]
        directory = Directory(tuple(links))
        self.same_as_links(directory, links)
        self.assertEqual(directory.groups("a"), ("b", "c", "d"))
        self.assertEqual(directory.members("d"), ("a", "b", "c"))
        self.assertEqual(directory.links(), (("a", "b"), ("b", "c"), ("c", "d")))
        directory.leave("b", "c")
        self.same_as_links(directory, [("a", "b"), ("c", "d")])
        directory.join("b", "c")
        self.same_as_links(directory, links)

    def test_diamond(self):
        links = [("a", "b"), ("a", "c"), ("b", "d"), ("c", "d"), ("d", "e"), ("a", "d")]
        directory = Directory(links)
        self.assertEqual(directory.ways("a", "d"), 3)
        self.assertEqual(directory.ways("a", "e"), 3)
        self.same_as_links(directory, links)
        directory.leave("b", "d")
        self.assertEqual(directory.ways("a", "e"), 2)
        self.assertTrue(directory.belongs("a", "e"))
        directory.leave("d", "e")
        self.assertEqual(directory.ways("a", "e"), 0)
        self.assertFalse(directory.belongs("a", "e"))
        self.assertEqual(directory.groups("a"), ("b", "c", "d"))
        self.same_as_links(directory, [("a", "b"), ("a", "c"), ("c", "d"), ("a", "d")])

    def test_results_are_tuples_in_alphabetical_order(self):
        directory = Directory([("z", "m"), ("aa", "m"), ("b", "m"), ("b", "aaa"), ("b", "c")])
        self.assertEqual(directory.members("m"), ("aa", "b", "z"))
        self.assertEqual(directory.groups("b"), ("aaa", "c", "m"))
        self.assertEqual(directory.links(), (("aa", "m"), ("b", "aaa"), ("b", "c"), ("b", "m"), ("z", "m")))

    def test_the_blank_and_unknown_words(self):
        directory = Directory([("a", "b")])
        self.assertFalse(directory.belongs("", "b"))
        self.assertFalse(directory.belongs("x", "b"))
        self.assertFalse(directory.belongs("b", "a"))
        self.assertEqual((directory.groups("x"), directory.members("x"), directory.ways("x", "x")), ((), (), 0))

    def test_already_linked(self):
        links = [("a", "b"), ("b", "c")]
        directory = Directory(links)
        for link in links:
            with self.assertRaises(AlreadyLinked):
                directory.join(*link)
            self.same_as_links(directory, links)
        directory.leave("a", "b")
        directory.join("a", "b")
        directory.join("a", "c")
        self.same_as_links(directory, links + [("a", "c")])

    def test_circles(self):
        links = [("a", "b"), ("b", "c"), ("c", "d"), ("a", "c")]
        directory = Directory(links)
        for link in (("a", "a"), ("e", "e"), ("b", "a"), ("c", "a"), ("d", "a"), ("d", "c")):
            with self.assertRaises(Circle):
                directory.join(*link)
            self.same_as_links(directory, links)

    def test_a_circle_is_let_once_the_way_is_gone(self):
        directory = Directory([("a", "b"), ("b", "c"), ("a", "c")])
        directory.leave("b", "c")
        with self.assertRaises(Circle):
            directory.join("c", "a")
        directory.leave("a", "c")
        directory.join("c", "a")
        self.same_as_links(directory, [("a", "b"), ("c", "a")])
        self.assertEqual(directory.groups("c"), ("a", "b"))

    def test_not_linked(self):
        links = [("a", "b"), ("b", "c")]
        directory = Directory(links)
        for link in (("a", "c"), ("b", "a"), ("a", "a"), ("x", "y"), ("a", "x")):
            with self.assertRaises(NotLinked):
                directory.leave(*link)
            self.same_as_links(directory, links)
        directory.leave("a", "b")
        with self.assertRaises(NotLinked):
            directory.leave("a", "b")
        self.same_as_links(directory, [("b", "c")])

    def test_join_and_leave_return_nothing(self):
        directory = Directory()
        self.assertIsNone(directory.join("a", "b"))
        self.assertIsNone(directory.leave("a", "b"))

    def test_the_constructor_raises_the_errors_of_join(self):
        with self.assertRaises(AlreadyLinked):
            Directory([("a", "b"), ("b", "c"), ("a", "b")])
        with self.assertRaises(Circle):
            Directory([("a", "b"), ("b", "c"), ("c", "a")])
        with self.assertRaises(Circle):
            Directory([("a", "a")])
        # The links are joined in order, so the first one that is wrong counts.
        with self.assertRaises(Circle):
            Directory([("a", "b"), ("b", "a"), ("a", "b")])
        with self.assertRaises(AlreadyLinked):
            Directory([("a", "b"), ("a", "b"), ("b", "a")])

    def test_nothing_is_shared(self):
        links = [("b", "c"), ("a", "b")]
        directory = Directory(links)
        directory.join("c", "d")
        self.assertEqual(links, [("b", "c"), ("a", "b")])
        links.append(("x", "y"))
        links[0] = ("q", "r")
        before = directory.links()
        self.assertEqual(before, (("a", "b"), ("b", "c"), ("c", "d")))
        groups = directory.groups("a")
        directory.leave("a", "b")
        self.assertEqual((before, groups), ((("a", "b"), ("b", "c"), ("c", "d")), ("b", "c", "d")))

    def test_two_directories_do_not_touch_each_other(self):
        links = [("a", "b")]
        one, other = Directory(links), Directory(links)
        third = Directory()
        one.join("b", "c")
        third.join("x", "y")
        self.same_as_links(other, [("a", "b")])
        other.leave("a", "b")
        self.same_as_links(one, [("a", "b"), ("b", "c")])
        self.assertEqual(Directory().links(), ())

    def test_large_counts(self):
        links = []
        for step in range(49):
            low, high = "a" * (step + 1), "a" * (step + 2)
            links += [(low, high), (low, "b" * (step + 1)), ("b" * (step + 1), high), (low, "c" * (step + 1))]
        directory = Directory(links)
        self.assertEqual(directory.ways("a", "a" * 50), 2 ** 49)
        directory.leave("a" * 10, "a" * 11)
        self.assertEqual(directory.ways("a", "a" * 50), 2 ** 48)
        directory.leave("b" * 10, "a" * 11)
        self.assertEqual(directory.ways("a", "a" * 50), 0)
        self.assertEqual(directory.ways("a", "a" * 10), 2 ** 9)

    def test_random_deeds_against_the_definition(self):
        dice = random.Random(9)
        for _ in range(30):
            directory, links = Directory(), []
            for _ in range(60):
                link = (dice.choice(WORDS), dice.choice(WORDS))
                if link in links and dice.random() < 0.6:
                    directory.leave(*link)
                    links.remove(link)
                elif link in links:
                    self.assertRaises(AlreadyLinked, directory.join, *link)
                elif link[0] == link[1] or counted(links, link[1], link[0]):
                    self.assertRaises(Circle, directory.join, *link)
                else:
                    self.assertRaises(NotLinked, directory.leave, *link)
                    directory.join(*link)
                    links.append(link)
            self.same_as_links(directory, links)
            dice.shuffle(links)
            self.same_as_links(Directory(links), links)
            for link in list(links):
                directory.leave(*link)
                links.remove(link)
            self.same_as_links(directory, [])


if __name__ == "__main__":
    unittest.main()
