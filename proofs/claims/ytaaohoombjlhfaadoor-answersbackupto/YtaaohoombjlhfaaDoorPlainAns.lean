/-
  Plain facts for layer 8 (answers): the table, and how bytes are held against it. Nothing of the program.
-/
import Derived.Test.YtaaohoombjlhfaaDoorPlainDec
import Derived.Test.YtaaohoombjlhfaaDoorPlainNames
namespace Go.Proofs.YtaaohoombjlhfaaDoor
open Go.RowKit

/-- The words, and the fields behind them, by kinds. -/
def wordT : List (List UInt8) := [[], [73, 78, 83, 69, 82, 84, 69, 68], [85, 83, 73, 78, 71], [82, 69, 83, 69, 82, 86, 69, 68], [68, 69, 65, 68, 76, 73, 78, 69, 95, 83, 79, 79, 78], [84, 73, 77, 69, 68, 95, 79, 85, 84], [68, 69, 76, 69, 84, 69, 68], [82, 69, 76, 69, 65, 83, 69, 68], [66, 85, 82, 73, 69, 68], [84, 79, 85, 67, 72, 69, 68], [87, 65, 84, 67, 72, 73, 78, 71], [78, 79, 84, 95, 73, 71, 78, 79, 82, 69, 68], [70, 79, 85, 78, 68], [75, 73, 67, 75, 69, 68], [75, 73, 67, 75, 69, 68], [80, 65, 85, 83, 69, 68], [79, 75], [78, 79, 84, 95, 70, 79, 85, 78, 68], [79, 85, 84, 95, 79, 70, 95, 77, 69, 77, 79, 82, 89], [66, 65, 68, 95, 70, 79, 82, 77, 65, 84], [85, 78, 75, 78, 79, 87, 78, 95, 67, 79, 77, 77, 65, 78, 68], [69, 88, 80, 69, 67, 84, 69, 68, 95, 67, 82, 76, 70], [74, 79, 66, 95, 84, 79, 79, 95, 66, 73, 71], [68, 82, 65, 73, 78, 73, 78, 71]]
def wordOf (k : Nat) : List UInt8 := wordT.getD k []
def idOf (k : Nat) : Int := ([0, 1099511627776, 0, 1099511627776, 0, 0, 0, 0, 0, 0, 0, 0, 1099511627776, 0, 0, 0, 0, 0, 0, 0, 0, 0, 0, 0] : List Int).getD k 0
def nuOf (k : Nat) : Int := ([0, 0, 0, 0, 0, 0, 0, 0, 0, 0, 4294967295, 0, 0, 4294967295, 0, 0, 0, 0, 0, 0, 0, 0, 0, 0] : List Int).getD k 0
def boOf (k : Nat) : Int := ([0, 0, 0, 65535, 0, 0, 0, 0, 0, 0, 0, 0, 65535, 0, 0, 0, 4294967295, 0, 0, 0, 0, 0, 0, 0] : List Int).getD k 0
def tuOf (k : Nat) : Bool := ([false, false, true, false, false, false, false, false, false, false, false, false, false, false, false, false, false, false, false, false, false, false, false, false] : List Bool).getD k false

/-- A reply. -/
structure Rp where
  kind : Int
  id : Int
  num : Int
  tube : List UInt8
  body : List UInt8

/-- May a reply be? -/
def rightB (r : Rp) : Bool := decide (1 ≤ r.kind) && decide (r.kind ≤ 23) && decide (min (idOf r.kind.toNat) 1 ≤ r.id) && decide (r.id ≤ idOf r.kind.toNat) && decide (0 ≤ r.num) && decide (r.num ≤ nuOf r.kind.toNat) && decide ((r.body.length : Int) ≤ boOf r.kind.toNat) &&
  (if tuOf r.kind.toNat then validB r.tube else r.tube.isEmpty)
def checkE (r : Rp) : Int := if 1 ≤ r.kind ∧ r.kind ≤ 23 then (if rightB r then 0 else 81) else 80
/-- A number's figures. -/
def decL (n : Int) : List UInt8 := Lib.decDigits n.toNat
/-- The fields of a reply's line, each with its blank. -/
def fieldsL (r : Rp) : List UInt8 :=
  (if 0 < idOf r.kind.toNat then 32 :: decL r.id else []) ++ (if 0 < nuOf r.kind.toNat then 32 :: decL r.num else []) ++
  (if tuOf r.kind.toNat then 32 :: r.tube else []) ++ (if 0 < boOf r.kind.toNat then 32 :: decL r.body.length else [])
/-- A reply's bytes. -/
def putL (r : Rp) : List UInt8 := wordOf r.kind.toNat ++ fieldsL r ++ [13, 10] ++ (if 0 < boOf r.kind.toNat then r.body ++ [13, 10] else [])

/-- A text, held against bytes from a place on: where it got to, and 0: it stands there, 1: they end, 2: one is wrong. -/
def textP (b : List UInt8) : List UInt8 → Nat → Nat × Nat
  | [], p => (p, 0)
  | c :: s, p => match b[p]? with
    | none => (p, 1)
    | some x => if x = c then textP b s (p + 1) else (p, 2)
/-- How long the longest beginning is that fits. -/
def fitN (fits : List UInt8 → Bool) (s : List UInt8) : Nat := (List.range s.length).countP (fun i => fits (s.take (i + 1)))
/-- A blank and a word. -/
def wordP (b : List UInt8) (fits : List UInt8 → Bool) (p : Nat) : List UInt8 × Nat × Nat :=
  if (textP b [32] p).2 = 0 then
    (((b.drop (p + 1)).take 200).take (fitN fits ((b.drop (p + 1)).take 200)), p + 1 + fitN fits ((b.drop (p + 1)).take 200),
      if p + 1 + fitN fits ((b.drop (p + 1)).take 200) = b.length then 1 else if fitN fits ((b.drop (p + 1)).take 200) = 0 then 2 else 0)
  else ([], textP b [32] p)
def numFits (least most : Int) (s : List UInt8) : Bool := parseB s most && decide (least ≤ parseV s most) && decide (decL (parseV s most) = s)

/-- How far a reply is read. -/
structure St where
  pos : Nat
  st : Nat
  id : Int
  num : Int
  tube : List UInt8
  size : Int
  body : List UInt8

def textS (w : List UInt8) (b : List UInt8) (s : St) : St := if s.st = 0 then { s with pos := (textP b w s.pos).1, st := (textP b w s.pos).2 } else s
def idS (m : Int) (b : List UInt8) (s : St) : St := if s.st = 0 then { s with pos := (wordP b (numFits 1 m) s.pos).2.1, st := (wordP b (numFits 1 m) s.pos).2.2, id := parseV (wordP b (numFits 1 m) s.pos).1 m } else s
def numS (m : Int) (b : List UInt8) (s : St) : St := if s.st = 0 then { s with pos := (wordP b (numFits 0 m) s.pos).2.1, st := (wordP b (numFits 0 m) s.pos).2.2, num := parseV (wordP b (numFits 0 m) s.pos).1 m } else s
def tubeS (b : List UInt8) (s : St) : St := if s.st = 0 then { s with pos := (wordP b validB s.pos).2.1, st := (wordP b validB s.pos).2.2, tube := (wordP b validB s.pos).1 } else s
def sizeS (m : Int) (b : List UInt8) (s : St) : St := if s.st = 0 then { s with pos := (wordP b (numFits 0 m) s.pos).2.1, st := (wordP b (numFits 0 m) s.pos).2.2, size := parseV (wordP b (numFits 0 m) s.pos).1 m } else s
def takeS (b : List UInt8) (s : St) : St := if s.st = 0 then (if b.length < s.pos + s.size.toNat then { s with pos := s.pos + s.size.toNat, st := 1 } else { s with pos := s.pos + s.size.toNat, body := (b.drop s.pos).take s.size.toNat }) else s

def st0 : St := ⟨0, 0, 0, 0, [], 0, []⟩
/-- The first line of a kind, but for its end. -/
def lineS (k : Nat) (b : List UInt8) (s : St) : St :=
  (fun s => if 0 < boOf k then sizeS (boOf k) b s else s) ((fun s => if tuOf k then tubeS b s else s) ((fun s => if 0 < nuOf k then numS (nuOf k) b s else s) ((fun s => if 0 < idOf k then idS (idOf k) b s else s) (textS (wordOf k) b s))))
/-- And a body, where there is one. -/
def bodyS (k : Nat) (b : List UInt8) (s : St) : St := if 0 < boOf k then takeS b (textS [13, 10] b s) else s
def kindS (k : Nat) (b : List UInt8) : St := textS [13, 10] b (bodyS k b (lineS k b st0))
def rpOf (k : Nat) (s : St) : Rp := ⟨k, s.id, s.num, s.tube, s.body⟩
def rp0 : Rp := ⟨0, 0, 0, [], []⟩
/-- The reply that bytes begin with. -/
def readFrom (b : List UInt8) : Nat → Nat → Nat → Rp × Nat × Nat
  | 0, _, far => (rp0, far, 2)
  | n + 1, k, far => if (kindS k b).st = 2 then readFrom b n (k + 1) (max far (kindS k b).pos) else (rpOf k (kindS k b), (kindS k b).pos, (kindS k b).st)
def readP (b : List UInt8) : Rp × Nat × Nat := readFrom b 23 1 0
end Go.Proofs.YtaaohoombjlhfaaDoor
