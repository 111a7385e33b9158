// Package frame: what copies tell one another, and the bytes that it is on the way.
package frame

import "inkwell/op"

// Content is what may be in a frame.
type Content int

const (
	Digest Content = iota
	Batch
)

// The byte at the head of a datagram tells what is in it.
const (
	headOfDigest = 'D'
	headOfBatch  = 'B'
)

// Frame is what a datagram says.
type Frame struct {
	Content    Content
	Copy       int            // of a digest alone
	Clock      op.Clock       // of a digest alone
	Operations []op.Operation // of a batch alone
}
