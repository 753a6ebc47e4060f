package impl

import (
	"cmp"
	"slices"
	"strconv"
	"strings"
)

// Codes of errors.
const (
	OK          = 0
	ErrInvalid  = 1
	ErrRange    = 2
	ErrLimit    = 3
	ErrState    = 4
	ErrSyntax   = 5
	ErrNotFound = 6
	ErrBudget   = 7
	ErrProof    = 8
)

// Limits of boards.
const (
	MaxSide   = 24
	MaxPieces = 200
	MaxDelay  = 9
)

// Limits that the document states without a name.
const (
	farthestCell = 100
	mostQuarters = 100
)

// Kinds of pieces.
const (
	PcLine   = 0
	PcCorner = 1
	PcFork   = 2
	PcOneWay = 3
	PcGate   = 4
	PcCross  = 5
)

// Sides of cells.
const (
	SdNorth = 0
	SdEast  = 1
	SdSouth = 2
	SdWest  = 3
)

// kindWords are the words of kinds in texts, and kindLetters their bytes in pictures.
var kindWords = [6]string{"line", "corner", "fork", "oneway", "gate", "cross"}

const (
	kindLetters = "lcfogx"
	emptyLetter = '.'
)

// Cell is told by how far it is east and south.
type Cell [2]int8

// Piece stands in a cell.
type Piece struct {
	At    Cell
	Kind  int8
	Turn  int8
	Delay int8
}

// Board has pieces in its cells.
type Board struct {
	Wide   int8
	High   int8
	Pieces []Piece
}

// CodeName returns the name of an error code.
func CodeName(code int64) string {
	switch code {
	case OK:
		return "ok"
	case ErrInvalid:
		return "invalid"
	case ErrRange:
		return "range"
	case ErrLimit:
		return "limit"
	case ErrState:
		return "state"
	case ErrSyntax:
		return "syntax"
	case ErrNotFound:
		return "notfound"
	case ErrBudget:
		return "budget"
	case ErrProof:
		return "proof"
	}
	return ""
}

// edge is a side of a cell; parameters of exported functions give it as a number.
type edge int8

func isSide(side int64) bool { return side >= SdNorth && side <= SdWest }

func (e edge) kept() edge     { return e }
func (e edge) next() edge     { return (e + 1) % 4 }
func (e edge) opposite() edge { return (e + 2) % 4 }
func (e edge) before() edge   { return (e + 3) % 4 }

// turned returns what the side becomes when its piece is turned by 0 to 3 quarters.
func (e edge) turned(quarters int8) edge {
	turns := [4]func(edge) edge{edge.kept, edge.next, edge.opposite, edge.before}
	return turns[quarters](e)
}

func (e edge) step(c Cell) Cell {
	switch e {
	case SdNorth:
		c[1]--
	case SdEast:
		c[0]++
	case SdSouth:
		c[1]++
	case SdWest:
		c[0]--
	}
	return c
}

// wrapQuarters returns the 0 to 3 quarters that do the same as any number of them.
func wrapQuarters(quarters int64) int8 { return int8((quarters%4 + 4) % 4) }

// OppositeSide returns the opposite side.
func OppositeSide(side int64) (int64, int64) {
	if !isSide(side) {
		return 0, ErrRange
	}
	return int64(edge(side).opposite()), OK
}

// NextCell returns the cell on a side of a cell.
func NextCell(c Cell, side int64) (Cell, int64) {
	if !isSide(side) || !isNear(c[0]) || !isNear(c[1]) {
		return Cell{}, ErrRange
	}
	return edge(side).step(c), OK
}

func isNear(n int8) bool { return n >= -farthestCell && n <= farthestCell }

// kind tells what a piece does that has not been turned; hitsOf tells the rest.
type kind interface {
	fallsFrom(from edge) bool
}

// joined falls from each of its ends, and hits on all the others.
type joined [4]bool

// oneWay lets a push through from in to out only.
type oneWay struct{ in, out edge }

// gate lets pushes through from its ends; from the other sides it is only taken out.
type gate struct{ joined }

// cross lets pushes through straight on from everywhere.
type cross struct{}

func (k joined) fallsFrom(from edge) bool { return k[from] }
func (k oneWay) fallsFrom(from edge) bool { return from == k.in }
func (k gate) fallsFrom(from edge) bool   { return true }
func (k cross) fallsFrom(from edge) bool  { return true }

func kindOf(number int8) kind {
	line := joined{SdEast: true, SdWest: true}
	switch number {
	case PcLine:
		return line
	case PcCorner:
		return joined{SdSouth: true, SdWest: true}
	case PcFork:
		return joined{SdNorth: true, SdSouth: true, SdWest: true}
	case PcOneWay:
		return oneWay{in: SdWest, out: SdEast}
	case PcGate:
		return gate{line}
	}
	return cross{}
}

// hitsOf tells which sides a piece that has not been turned hits, if it falls from a side.
func hitsOf(k kind, from edge) [4]bool {
	var hits [4]bool
	switch k := k.(type) {
	case joined:
		hits = k
		hits[from] = false
	case oneWay:
		hits[k.out] = true
	case gate:
		if k.joined.fallsFrom(from) {
			return hitsOf(k.joined, from)
		}
	case cross:
		hits[from.opposite()] = true
	}
	return hits
}

// reaction is what a piece does that is hit from a side.
type reaction struct {
	falls bool
	hits  [4]bool
}

func reactionOf(p Piece, from edge) reaction {
	k := kindOf(p.Kind)
	unturned := from.turned(wrapQuarters(-int64(p.Turn)))
	if !k.fallsFrom(unturned) {
		return reaction{}
	}
	r := reaction{falls: true}
	for i, hit := range hitsOf(k, unturned) {
		r.hits[edge(i).turned(p.Turn)] = hit
	}
	return r
}

func reactionsOf(p Piece) [4]reaction {
	var all [4]reaction
	for i := range all {
		all[i] = reactionOf(p, edge(i))
	}
	return all
}

// ValidPiece reports whether a piece is valid.
func ValidPiece(p Piece) bool {
	largest := size{MaxSide, MaxSide}
	return p.Kind >= PcLine && p.Kind <= PcCross &&
		p.Turn >= 0 && p.Turn <= 3 &&
		p.Delay >= 1 && p.Delay <= MaxDelay &&
		largest.holds(p.At)
}

// FallsFrom reports whether a piece falls that is hit from a side.
func FallsFrom(p Piece, side int64) (bool, int64) {
	if !ValidPiece(p) {
		return false, ErrInvalid
	}
	if !isSide(side) {
		return false, ErrRange
	}
	return reactionOf(p, edge(side)).falls, OK
}

// HitsFrom tells which neighbours a piece hits.
func HitsFrom(p Piece, side int64) ([4]bool, int64) {
	if !ValidPiece(p) {
		return [4]bool{}, ErrInvalid
	}
	if !isSide(side) {
		return [4]bool{}, ErrRange
	}
	return reactionOf(p, edge(side)).hits, OK
}

func validQuarters(quarters int64) bool {
	return quarters >= -mostQuarters && quarters <= mostQuarters
}

// TurnPiece turns a piece.
func TurnPiece(p Piece, quarters int64) (Piece, int64) {
	if !ValidPiece(p) {
		return Piece{}, ErrInvalid
	}
	if !validQuarters(quarters) {
		return Piece{}, ErrRange
	}
	p.Turn = wrapQuarters(int64(p.Turn) + quarters)
	return p, OK
}

// AlikePieces reports whether two pieces do the same.
func AlikePieces(p, q Piece) (bool, int64) {
	if !ValidPiece(p) || !ValidPiece(q) {
		return false, ErrInvalid
	}
	return p.Delay == q.Delay && reactionsOf(p) == reactionsOf(q), OK
}

// size tells how many cells a board has each way.
type size struct{ wide, high int8 }

func (s size) allowed() bool {
	return s.wide >= 1 && s.wide <= MaxSide && s.high >= 1 && s.high <= MaxSide
}

func (s size) holds(c Cell) bool {
	return c[0] >= 0 && c[0] < s.wide && c[1] >= 0 && c[1] < s.high
}

// layout is a valid board, with its pieces found by their cells.
type layout struct {
	size
	indices map[Cell]int64
}

// layoutOf returns false if the board is not valid.
func layoutOf(b Board) (layout, bool) {
	l := layout{size{b.Wide, b.High}, map[Cell]int64{}}
	if !l.allowed() || len(b.Pieces) > MaxPieces {
		return layout{}, false
	}
	for i, p := range b.Pieces {
		if !ValidPiece(p) || !l.holds(p.At) || l.indexAt(p.At) >= 0 {
			return layout{}, false
		}
		l.indices[p.At] = int64(i)
	}
	return l, true
}

// indexAt returns -1 if no piece is in the cell.
func (l layout) indexAt(c Cell) int64 {
	if i, ok := l.indices[c]; ok {
		return i
	}
	return -1
}

// ValidBoard reports whether a board is valid.
func ValidBoard(b Board) bool {
	_, ok := layoutOf(b)
	return ok
}

// SameBoard reports whether two boards are deeply equal.
func SameBoard(a, b Board) bool {
	return a.Wide == b.Wide && a.High == b.High && slices.Equal(a.Pieces, b.Pieces)
}

// PieceAt returns the piece in a cell.
func PieceAt(b Board, c Cell) (int64, int64) {
	l, ok := layoutOf(b)
	if !ok {
		return 0, ErrInvalid
	}
	i := l.indexAt(c)
	if i < 0 {
		return 0, ErrNotFound
	}
	return i, OK
}

// withPieces returns a board of the same size.
func withPieces(b Board, pieces []Piece) Board {
	return Board{Wide: b.Wide, High: b.High, Pieces: pieces}
}

// PutPiece puts a piece on a board.
func PutPiece(b Board, p Piece) (Board, int64) {
	l, ok := layoutOf(b)
	switch {
	case !ok || !ValidPiece(p):
		return Board{}, ErrInvalid
	case !l.holds(p.At):
		return Board{}, ErrRange
	case l.indexAt(p.At) >= 0:
		return Board{}, ErrState
	case len(b.Pieces) >= MaxPieces:
		return Board{}, ErrLimit
	}
	return withPieces(b, append(slices.Clone(b.Pieces), p)), OK
}

// TakePiece takes the piece in a cell away.
func TakePiece(b Board, c Cell) (Board, int64) {
	i, code := PieceAt(b, c)
	if code != OK {
		return Board{}, code
	}
	pieces := slices.Clone(b.Pieces)
	return withPieces(b, slices.Delete(pieces, int(i), int(i)+1)), OK
}

// CountKinds returns how many pieces are of each kind.
func CountKinds(b Board) ([6]int64, int64) {
	var counts [6]int64
	if !ValidBoard(b) {
		return counts, ErrInvalid
	}
	for _, p := range b.Pieces {
		counts[p.Kind]++
	}
	return counts, OK
}

// NeighboursOf returns the pieces on all sides of a piece.
func NeighboursOf(b Board, i int64) ([4]int64, int64) {
	var near [4]int64
	l, ok := layoutOf(b)
	if !ok {
		return near, ErrInvalid
	}
	if i < 0 || i >= int64(len(b.Pieces)) {
		return near, ErrRange
	}
	for s := range near {
		near[s] = l.indexAt(edge(s).step(b.Pieces[i].At))
	}
	return near, OK
}

// MoveBoard moves all pieces.
func MoveBoard(b Board, east, south int64) (Board, int64) {
	l, ok := layoutOf(b)
	if !ok {
		return Board{}, ErrInvalid
	}
	if !validMove(east) || !validMove(south) {
		return Board{}, ErrRange
	}
	pieces := slices.Clone(b.Pieces)
	for i, p := range pieces {
		to := Cell{p.At[0] + int8(east), p.At[1] + int8(south)}
		if !l.holds(to) {
			return Board{}, ErrState
		}
		pieces[i].At = to
	}
	return withPieces(b, pieces), OK
}

func validMove(cells int64) bool { return cells >= -MaxSide && cells <= MaxSide }

// TurnBoard turns a board as a whole.
func TurnBoard(b Board, quarters int64) (Board, int64) {
	if !ValidBoard(b) {
		return Board{}, ErrInvalid
	}
	if !validQuarters(quarters) {
		return Board{}, ErrRange
	}
	turned := withPieces(b, slices.Clone(b.Pieces))
	for range wrapQuarters(quarters) {
		turned = quarterTurned(turned)
	}
	return turned, OK
}

func quarterTurned(b Board) Board {
	turned := Board{Wide: b.High, High: b.Wide}
	for _, p := range b.Pieces {
		p.At = Cell{b.High - 1 - p.At[1], p.At[0]}
		p.Turn = wrapQuarters(int64(p.Turn) + 1)
		turned.Pieces = append(turned.Pieces, p)
	}
	return turned
}

// JoinBoards puts the pieces of a board on another one.
func JoinBoards(a, b Board) (Board, int64) {
	l, ok := layoutOf(a)
	if !ok || !ValidBoard(b) {
		return Board{}, ErrInvalid
	}
	for _, p := range b.Pieces {
		if !l.holds(p.At) {
			return Board{}, ErrRange
		}
	}
	for _, p := range b.Pieces {
		if l.indexAt(p.At) >= 0 {
			return Board{}, ErrState
		}
	}
	if len(a.Pieces)+len(b.Pieces) > MaxPieces {
		return Board{}, ErrLimit
	}
	return withPieces(a, slices.Concat(a.Pieces, b.Pieces)), OK
}

// SortBoard orders the pieces of a board.
func SortBoard(b Board) (Board, int64) {
	if !ValidBoard(b) {
		return Board{}, ErrInvalid
	}
	pieces := slices.Clone(b.Pieces)
	slices.SortFunc(pieces, compareSouthEast)
	return withPieces(b, pieces), OK
}

func compareSouthEast(p, q Piece) int {
	return cmp.Or(cmp.Compare(p.At[1], q.At[1]), cmp.Compare(p.At[0], q.At[0]))
}

// BoardText returns the text of a board.
func BoardText(b Board) string {
	if !ValidBoard(b) {
		return ""
	}
	var text strings.Builder
	text.WriteString(wordsLine(smallText(b.Wide), smallText(b.High)))
	for _, p := range b.Pieces {
		text.WriteString(wordsLine(smallText(p.At[0]), smallText(p.At[1]),
			kindWords[p.Kind], smallText(p.Turn), smallText(p.Delay)))
	}
	return text.String()
}

func wordsLine(words ...string) string { return strings.Join(words, " ") + "\n" }

func smallText(n int8) string { return strconv.Itoa(int(n)) }

// ReadBoard returns the board with a text.
func ReadBoard(text string) (Board, int64) {
	b, ok := parseBoard(text)
	// A board has one text only: this refuses invalid boards, signs, leading zeros and missing newlines.
	if !ok || BoardText(b) != text {
		return Board{}, ErrSyntax
	}
	return b, OK
}

// parseBoard accepts more texts than ReadBoard does.
func parseBoard(text string) (Board, bool) {
	lines := strings.Split(strings.TrimSuffix(text, "\n"), "\n")
	sides, ok := parseSmalls(strings.Split(lines[0], " "), 2)
	if !ok || len(lines) > 1+MaxPieces {
		return Board{}, false
	}
	b := Board{Wide: sides[0], High: sides[1]}
	for _, line := range lines[1:] {
		p, ok := parsePiece(line)
		if !ok {
			return Board{}, false
		}
		b.Pieces = append(b.Pieces, p)
	}
	return b, true
}

func parsePiece(line string) (Piece, bool) {
	words := strings.Split(line, " ")
	if len(words) != 5 {
		return Piece{}, false
	}
	kind, found := kindNamed(words[2])
	numbers, ok := parseSmalls(slices.Delete(words, 2, 3), 4)
	if !found || !ok {
		return Piece{}, false
	}
	at := Cell{numbers[0], numbers[1]}
	return Piece{At: at, Kind: kind, Turn: numbers[2], Delay: numbers[3]}, true
}

func kindNamed(word string) (int8, bool) {
	for i, name := range kindWords {
		if name == word {
			return int8(i), true
		}
	}
	return 0, false
}

// parseSmalls returns false if there are not count words, all of them numbers.
func parseSmalls(words []string, count int) ([]int8, bool) {
	if len(words) != count {
		return nil, false
	}
	numbers := make([]int8, count)
	for i, word := range words {
		n, err := strconv.ParseInt(word, 10, 8)
		if err != nil {
			return nil, false
		}
		numbers[i] = int8(n)
	}
	return numbers, true
}

// BoardPicture returns a picture of a board.
func BoardPicture(b Board) ([]string, int64) {
	if !ValidBoard(b) {
		return nil, ErrInvalid
	}
	cells := make([][]byte, b.High)
	for y := range cells {
		cells[y] = slices.Repeat([]byte{emptyLetter}, int(b.Wide))
	}
	for _, p := range b.Pieces {
		cells[p.At[1]][p.At[0]] = kindLetters[p.Kind]
	}
	lines := make([]string, b.High)
	for y, row := range cells {
		lines[y] = string(row)
	}
	return lines, OK
}
