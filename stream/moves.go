package stream

import (
	"errors"

	"cullet/api"
	"cullet/pipes"
)

// read fills p from the source. Fewer bytes without an error: the source has ended behind them.
func read(source *pipes.Source, p []byte) (int, error) {
	n, err := pipes.Full(source, p)
	if errors.Is(err, pipes.End) {
		return n, nil
	}
	return n, err
}

// write gives all of p to the sink.
func write(sink *pipes.Sink, p []byte) error {
	_, err := pipes.Put(sink, p)
	return err
}

// writeEach gives each shard to its sink, if it has one.
func writeEach(sinks []*pipes.Sink, shards [][]byte) error {
	for i, sink := range sinks {
		if sink == nil {
			continue
		}
		if err := write(sink, shards[i]); err != nil {
			return err
		}
	}
	return nil
}

// padded is data that is read from a source, with zeros without end behind it.
type padded struct {
	src  *pipes.Source
	left int // bytes of the data that are still to be read
}

// give writes the next length bytes to the sink, by the memory of one piece. ErrShort, if the source ends ahead of the data's end.
func (d *padded) give(sink *pipes.Sink, length int, piece []byte) error {
	for length > 0 {
		p := piece[:min(len(piece), length)]
		if err := d.fill(p); err != nil {
			return err
		}
		if err := write(sink, p); err != nil {
			return err
		}
		length -= len(p)
	}
	return nil
}

func (d *padded) fill(p []byte) error {
	wanted := min(len(p), d.left)
	n, err := read(d.src, p[:wanted])
	if err != nil {
		return err
	}
	if n < wanted {
		return api.ErrShort
	}
	d.left -= n
	clear(p[n:])
	return nil
}

// pass writes what the source gives to the sink, at most so many bytes, by the memory of one piece. It answers how many there were.
func pass(sink *pipes.Sink, source *pipes.Source, most int, piece []byte) (int, error) {
	done := 0
	for done < most {
		p := piece[:min(len(piece), most-done)]
		n, err := read(source, p)
		if err != nil {
			return 0, err
		}
		if err := write(sink, p[:n]); err != nil {
			return 0, err
		}
		done += n
		if n < len(p) {
			break
		}
	}
	return done, nil
}
