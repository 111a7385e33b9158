package frame

import (
	"inkwell/api"
	"inkwell/op"
)

// room is what a batch has for its operations beside its head, their count and the sum. The count is one byte: 128 operations never have room.
const room = api.MaxDatagram - 1 - 1 - sumSize

// WriteDigest gives the digest of a copy, one of so many (P7).
func WriteDigest(copies, self int, clock op.Clock) string {
	list := appendVarints([]byte{headOfDigest}, int64(self))
	return seal(appendClock(list, copies, clock))
}

// WriteBatches gives batches of operations, in their order, each with as many as it has room for (P7, P10).
func WriteBatches(copies int, operations []op.Operation) []string {
	var batches []string
	var body []byte
	count := 0
	for _, o := range operations {
		piece := appendOperation(nil, copies, o)
		if len(body)+len(piece) > room {
			batches = append(batches, writeBatch(count, body))
			body, count = nil, 0
		}
		body = append(body, piece...)
		count++
	}
	if count > 0 {
		batches = append(batches, writeBatch(count, body))
	}
	return batches
}

func writeBatch(count int, body []byte) string {
	list := appendVarints([]byte{headOfBatch}, int64(count))
	return seal(append(list, body...))
}

func appendOperation(list []byte, copies int, o op.Operation) []byte {
	list = appendVarints(list, int64(o.Origin), int64(o.Number), o.Counter, int64(o.Kind), o.Target.Counter, int64(o.Target.Copy))
	if o.Kind == op.Insert {
		list = appendVarints(list, int64(o.Rune))
	}
	return appendClock(list, copies, o.Clock)
}

func appendClock(list []byte, copies int, clock op.Clock) []byte {
	for number := 1; number <= copies; number++ {
		list = appendVarints(list, int64(clock.Of(number)))
	}
	return list
}
