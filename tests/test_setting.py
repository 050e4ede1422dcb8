"""setting: the parts that ask it."""

from tests.helper import Case, read, row_call, run, setting, unweave, woven

LINES = ("@chunk c", "@if s", "@if s", "@else", "@if t", "@fi", "@fi", "@fi", "@if s", "@fi", "@end",
         "|told|", "@file f", "@if t2", "@fi", "@end",
         "@file f", "@if t", "@else", "@{use}@@if code", "@fi", "@if s", "@fi", "@end")


def ask(*calls):
    return run(read(*LINES), *calls)[1:]


class SettingTest(Case):
    def test_new_object(self):
        self.assertEqual(run(setting("s"), setting("")), [[-3], [-3]])

    def test_parts(self):
        self.assertEqual(ask(setting("s"), setting("t"), setting("t2")), [[2, 1, 3], [2, 1, 3], [1, 2]])

    def test_no_setting(self):
        for name in ("c", "f", "use", "told", "code", "S", "s ", " s", "t3", "@if s", "s\n", ""):
            self.assertEqual(ask(setting(name)), [[-3]], name)

    def test_bytes_that_are_no_signs(self):
        self.assertEqual(ask(row_call(7, [0]), row_call(7, [255, 115]), row_call(7, [115])), [[-3], [-3], [2, 1, 3]])

    def test_many_bytes(self):
        self.assertEqual(ask(setting("s" * 13), setting("s" * 24000)), [[-3], [-3]])

    def test_longest_setting(self):
        name = "s" * 11 + "9"
        self.assertEqual(run(read("@file f", "@if " + name, "@fi", "@end"), setting(name)), [[0, 1], [1, 1]])

    def test_setting_that_is_a_name_too(self):
        lines = ("@chunk s", "@end", "@file s", "@if s", "@fi", "@end", "@chunk p(s)", "@<s>", "@end")
        self.assertEqual(run(read(*lines), setting("s")), [[0, 3], [1, 2]])

    def test_another_document(self):
        found = run(read(*LINES), read("@file c", "@if u", "@fi", "@end"), setting("s"), setting("u"), read("@"),
                    setting("u"))
        self.assertEqual(found[2:], [[-3], [1, 1], [1, 2], [1, 1]])

    def test_after_unweave(self):
        self.assertEqual(run(unweave(*woven(*LINES)), setting("s"), setting("code")), [[4], [2, 1, 3], [-3]])
