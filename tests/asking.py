"""What several test files use."""

OTHER_THINGS = (
    True, False, None, "", "2", "97", "rests 97", [], [2], [97], (), (2,), (97,), [[1]], ((1,),), [None], (True,),
)


class Asking:
    """Checks for test cases, which stand beside this among their bases."""

    def assert_refused(self, refusal, what, asked, *told, **named):
        with self.assertRaises(refusal) as caught:
            asked(*told, **named)
        self.assertIs(type(caught.exception), refusal)
        self.assert_same(caught.exception.what, what)

    def assert_same(self, told, wanted):
        """Alike kind by kind, which == isn't: there True is 1."""
        self.assertIs(type(told), type(wanted), (told, wanted))
        if isinstance(wanted, (list, tuple)):
            self.assertEqual(len(told), len(wanted), (told, wanted))
            for part, beside in zip(told, wanted):
                self.assert_same(part, beside)
        else:
            self.assertEqual(told, wanted)

    def assert_own(self, asked, *told):
        """A list that is told is the asker's own."""
        first = asked(*told)
        kept = list(first)
        second = asked(*told)
        self.assertIsNot(first, second)
        first.append("more")
        first[0] = "other"
        self.assertEqual(second, kept)
        self.assertEqual(asked(*told), kept)
