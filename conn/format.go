package conn

import (
	"quayside/api"
	"quayside/chunked"
	"quayside/field"
	"quayside/framing"
	"quayside/head"
)

// writer writes events as bytes.
type writer struct {
	bytes []byte
	frame framing.Frame // of a message that has not ended, with the Length that is left; zero outside of a message
	last  bool          // whether a message with the frame Close has ended, so that nothing may follow
}

// Format returns the bytes of messages.
func Format(list []Event) ([]byte, error) {
	var w writer
	for _, e := range list {
		if err := w.write(e); err != nil {
			return nil, err
		}
	}
	return w.bytes, nil
}

func (w *writer) write(e Event) error {
	switch e.Kind {
	case Head:
		return w.writeHead(e)
	case Data:
		return w.writeData(e.Data)
	case End:
		return w.writeEnd(e.Trailers)
	}
	return api.ErrState
}

// writeHead writes the Head e. Also where none may stand, the errors of lower
// layers come first, as the chapter has it.
func (w *writer) writeHead(e Event) error {
	b, err := e.headBytes()
	if err != nil {
		return err
	}
	frame, err := e.frame("GET")
	if err != nil {
		return err
	}
	if w.last || w.frame.Kind != 0 {
		return api.ErrState
	}
	w.bytes = append(w.bytes, b...)
	if !e.isInterim() {
		w.frame = frame
	}
	return nil
}

// headBytes returns the bytes of the Head e.
func (e Event) headBytes() ([]byte, error) {
	if e.isRequest() {
		return head.WriteRequest(e.Request)
	}
	return head.WriteResponse(e.Response)
}

func (w *writer) writeData(b []byte) error {
	switch w.frame.Kind {
	case framing.Chunked:
		b = chunked.Chunk(b)
	case framing.Length:
		if len(b) > w.frame.Length {
			return api.ErrLength
		}
		w.frame.Length -= len(b)
	case framing.None:
		if len(b) > 0 {
			return api.ErrState
		}
	case framing.Close:
	default:
		return api.ErrState
	}
	w.bytes = append(w.bytes, b...)
	return nil
}

func (w *writer) writeEnd(trailers field.Fields) error {
	switch w.frame.Kind {
	case 0:
		return api.ErrState
	case framing.Chunked:
		b, err := chunked.Last(trailers)
		if err != nil {
			return err
		}
		w.bytes = append(w.bytes, b...)
	default:
		if w.frame.Length > 0 {
			return api.ErrLength
		}
		if len(trailers) > 0 {
			return api.ErrTrailer
		}
	}
	w.last = w.frame.Kind == framing.Close
	w.frame = framing.Frame{}
	return nil
}
