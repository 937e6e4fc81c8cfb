/- Bodies of robots on the floor, as plain data. -/
import Derived.Below
namespace Go.Proofs.Ytjbhmeeebacnpaa.Fl

structure BodD where
  cel : Int
  dst : Int
  srv : Bool
  flt : Bool
deriving DecidableEq
def zeroB : BodD := ⟨0, 0, false, false⟩
def offB : BodD := ⟨-1, -1, false, false⟩
def floorB (b : BodD) : Bool := b.cel != -1
def restB (b : BodD) : Bool := floorB b && b.dst == -1 && !b.srv && !b.flt
/-- A body after an action; fol: the cell follows its own. -/
def chgB (b : BodD) (a c : Int) : BodD :=
  if a = 0 then ⟨c, -1, false, false⟩ else if a = 1 then ⟨b.cel, c, b.srv, b.flt⟩ else if a = 2 then ⟨b.dst, -1, b.srv, b.flt⟩
  else if a = 3 then ⟨b.cel, b.dst, true, b.flt⟩ else if a = 4 then ⟨b.cel, b.dst, false, b.flt⟩ else if a = 5 then ⟨b.cel, b.dst, b.srv, true⟩ else offB
/-- An action is possible. -/
def okB (fol : Bool) (b : BodD) (a : Int) : Bool :=
  if a = 0 then !floorB b else if a = 1 then restB b && fol else if a = 2 then floorB b && b.dst != -1 && !b.flt
  else if a = 3 then restB b else if a = 4 then floorB b && b.srv && !b.flt else if a = 5 then floorB b else floorB b && (restB b || b.flt)
/-- A robot and a cell exist. -/
def rangeB (l : List BodD) (r c : Int) : Prop := 0 ≤ r ∧ r < (l.length : Int) ∧ 0 ≤ c ∧ c < 48
instance (l : List BodD) (r c : Int) : Decidable (rangeB l r c) := by unfold rangeB; infer_instance
def bodAt (l : List BodD) (r : Int) : BodD := l.getD r.toNat zeroB
/-- The error of an action. -/
def doE (fol : Bool) (l : List BodD) (r a c : Int) : Int := if rangeB l r c then (if okB fol (bodAt l r) a = true then 0 else 24) else 19
/-- The bodies after an action. -/
def doL (fol : Bool) (l : List BodD) (r a c : Int) : List BodD := if doE fol l r a c = 0 then l.set r.toNat (chgB (bodAt l r) a c) else []
theorem do_range {fol : Bool} {l : List BodD} {r a c : Int} (h : ¬ rangeB l r c) : doE fol l r a c = 19 ∧ doL fol l r a c = [] := by
  have e : doE fol l r a c = 19 := if_neg h
  exact ⟨e, by unfold doL; rw [e]; rfl⟩
theorem do_no {fol : Bool} {l : List BodD} {r a c : Int} (h : rangeB l r c) (hb : okB fol (bodAt l r) a = false) : doE fol l r a c = 24 ∧ doL fol l r a c = [] := by
  have e : doE fol l r a c = 24 := by unfold doE; rw [if_pos h, hb]; rfl
  exact ⟨e, by unfold doL; rw [e]; rfl⟩
theorem do_ok {fol : Bool} {l : List BodD} {r a c : Int} (h : rangeB l r c) (hb : okB fol (bodAt l r) a = true) : doE fol l r a c = 0 ∧ doL fol l r a c = l.set r.toNat (chgB (bodAt l r) a c) := by
  have e : doE fol l r a c = 0 := by unfold doE; rw [if_pos h, hb]; rfl
  exact ⟨e, by unfold doL; rw [e]; rfl⟩
theorem bodAt_nat {l : List BodD} {i : Nat} (h : i < l.length) : bodAt l (i : Int) = l[i] := by
  unfold bodAt
  rw [Int.toNat_natCast, List.getD_eq_getElem?_getD, List.getElem?_eq_getElem h]
  rfl
/-- The cells of a footprint. -/
def fpB (b : BodD) : List Int := if b.cel = -1 then [] else if b.dst = -1 ∨ b.dst = b.cel then [b.cel] else [min b.cel b.dst, max b.cel b.dst]
/-- Two footprints have a cell in common. -/
def meetB (a b : BodD) : Bool := (fpB a).any (fun x => (fpB b).any (fun y => decide (x = y)))
theorem fpB_len (b : BodD) : (fpB b).length ≤ 2 := by
  unfold fpB
  split
  · simp
  · split <;> simp
/-- The first robot from k on whose footprint meets that of a. -/
def clashK (a : BodD) : List BodD → Nat → Option Nat
  | [], _ => none
  | b :: l, k => if meetB a b = true then some k else clashK a l (k + 1)
/-- The first two robots from i on whose footprints meet. -/
def clashL : List BodD → Nat → Option (Nat × Nat)
  | [], _ => none
  | a :: l, i => match clashK a l (i + 1) with
    | some k => some (i, k)
    | none => clashL l (i + 1)
end Go.Proofs.Ytjbhmeeebacnpaa.Fl
