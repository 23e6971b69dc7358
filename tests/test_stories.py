"""The promise, whole: stories that are cut and fail again and again, each single operation of which is looked at."""

import unittest

from flashtrees.chip import blank_image
from flashtrees.store import opened_tree
from tests.images import orderly_image
from tests.shelves import opens_by_hand
from tests.stories import Story, bad_blocks, small_deed, some_luck, with_bads
from tests.support import seeded
from tests.test_shelf_model import rough_image


class StoryTest(unittest.TestCase):
    def add(self, met, story):
        for name in ("operations", "cuts", "done", "refused", "full", "worn"):
            met[name] = met.get(name, 0) + getattr(story, name)

    def test_stories_with_up_to_spare_bad_blocks(self):
        met = {}
        for seed in range(40):
            luck = seeded(seed)
            many, size = luck.choice((5, 5, 6, 7, 12)), luck.choice((5, 5, 6, 8, 12))
            spare = luck.randint(0, min(3, many - 4))
            image = with_bads(luck, blank_image(many, size), luck.randint(0, spare))
            story = Story(self, luck, image, spare)
            for _ in range(luck.choice((3, 8, 12))):
                left = spare - len(bad_blocks(story.image))
                story.run(some_luck(luck, luck.choice((5, 40, 150)), luck.randint(0, left)), 60, small_deed)
            self.add(met, story)
            self.assertEqual(story.worn, 0)
        for name, many in (("operations", 5000), ("cuts", 100), ("done", 2500), ("refused", 250), ("full", 200)):
            self.assertGreater(met[name], many, name)

    def test_stories_with_more_bad_blocks(self):
        met = {}
        for seed in range(20):
            luck = seeded(1000 + seed)
            many = luck.choice((5, 6, 7))
            spare = luck.randint(0, min(2, many - 4))
            story = Story(self, luck, with_bads(luck, blank_image(many, 5), spare), spare)
            for _ in range(5):
                story.run(some_luck(luck, 50, luck.randint(1, 3)), 40, small_deed)
            self.add(met, story)
        self.assertGreater(met["worn"], 20)
        self.assertGreater(met["done"], 300)

    def test_stores_of_each_image_that_opens(self):
        met = {}
        luck = seeded(77)
        while met.get("cuts", 0) < 60:
            image = luck.choice((orderly_image, rough_image))(luck)
            self.assertIs(opened_tree(image) is not None, opens_by_hand(image))
            if opened_tree(image) is not None:
                story = Story(self, luck, image, luck.randint(0, min(3, len(image) - 4)), False)
                for _ in range(2):
                    story.run(some_luck(luck, 20, luck.randint(0, 2)), 15, small_deed)
                self.add(met, story)
        self.assertGreater(met["done"], 300)


if __name__ == "__main__":
    unittest.main()
