package heap

// block is a block, and the top of a tree of blocks: those ahead of it are on its left, those behind it on its right. The heights of both sides differ by 1 at most, and each top knows the widest gap of its tree: so no call goes through more than a few of them.
type block struct {
	at, size    int
	gap         int // how many words right ahead of it are in no block
	most        int // the widest gap of its tree
	height      int
	left, right *block
}

func newBlock(at, size, gap int) *block {
	return &block{at: at, size: size, gap: gap, most: gap, height: 1}
}

// widest is the widest gap of a tree.
func (b *block) widest() int {
	if b == nil {
		return 0
	}
	return b.most
}

func (b *block) tall() int {
	if b == nil {
		return 0
	}
	return b.height
}

// behindGap is the first block with a gap of n words or more ahead of it. The tree has such a gap.
func (b *block) behindGap(n int) *block {
	for {
		switch {
		case b.left.widest() >= n:
			b = b.left
		case b.gap >= n:
			return b
		default:
			b = b.right
		}
	}
}

// upTo is the last block that does not begin behind a word.
func (b *block) upTo(at int) *block {
	var last *block
	for b != nil {
		if b.at > at {
			b = b.left
		} else {
			last, b = b, b.right
		}
	}
	return last
}

// find is the block that begins at a word, and the one that comes next.
func (b *block) find(at int) (found, next *block) {
	for b != nil {
		switch {
		case at < b.at:
			next, b = b, b.left
		case at > b.at:
			b = b.right
		default:
			if b.right != nil {
				next = b.right.first()
			}
			return b, next
		}
	}
	return nil, nil
}

func (b *block) first() *block {
	for b.left != nil {
		b = b.left
	}
	return b
}

// with adds a block. The next one, whose gap it takes words from, is on the way down, so that all tops above that one come to know its new gap.
func (b *block) with(added *block) *block {
	if b == nil {
		return added
	}
	if added.at < b.at {
		b.left = b.left.with(added)
	} else {
		b.right = b.right.with(added)
	}
	return b.level()
}

// without takes the block out that begins at a word; there is one. The next one, which gets the words, is on the way down here too, or comes into its place.
func (b *block) without(at int) *block {
	switch {
	case at < b.at:
		b.left = b.left.without(at)
	case at > b.at:
		b.right = b.right.without(at)
	case b.right == nil:
		return b.left
	default:
		next := b.right.first()
		rest := b.right.withoutFirst()
		next.left, next.right = b.left, rest
		return next.level()
	}
	return b.level()
}

func (b *block) withoutFirst() *block {
	if b.left == nil {
		return b.right
	}
	b.left = b.left.withoutFirst()
	return b.level()
}

// level answers the tree with sides of about the same height, if one of them has become a little too high.
func (b *block) level() *block {
	b.settle()
	switch lean := b.left.tall() - b.right.tall(); {
	case lean > 1:
		if b.left.left.tall() < b.left.right.tall() {
			b.left = b.left.turnLeft()
		}
		return b.turnRight()
	case lean < -1:
		if b.right.right.tall() < b.right.left.tall() {
			b.right = b.right.turnRight()
		}
		return b.turnLeft()
	}
	return b
}

// turnLeft makes the block on the right the top.
func (b *block) turnLeft() *block {
	top := b.right
	b.right, top.left = top.left, b
	b.settle()
	top.settle()
	return top
}

// turnRight makes the block on the left the top.
func (b *block) turnRight() *block {
	top := b.left
	b.left, top.right = top.right, b
	b.settle()
	top.settle()
	return top
}

// settle says of a top what its sides have made of it.
func (b *block) settle() {
	b.most = max(b.gap, b.left.widest(), b.right.widest())
	b.height = 1 + max(b.left.tall(), b.right.tall())
}
