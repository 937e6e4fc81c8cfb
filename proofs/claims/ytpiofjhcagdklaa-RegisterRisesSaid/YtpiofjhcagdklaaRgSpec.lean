/- Senders, as plain data. -/
import Derived.Test.YtpiofjhcagdklaaFrSpec
namespace Go.Proofs.Ytpiofjhcagdklaa.Fl

structure SndD where
  seq : Int
  isOpen : Bool
  cell : Int
  flag : Int
deriving DecidableEq
def zeroSn : SndD := ⟨0, false, 0, 0⟩
def topSeq : Int := 18446744073709551615
def offE (s : SndD) (c f : Int) : Int := if c < 0 ∨ 48 ≤ c ∨ (f ≠ 0 ∧ f ≠ 1) then 19 else if s.isOpen = true then 23 else if s.seq = 18446744073709551615 then 25 else 0
def offS (s : SndD) (c f : Int) : SndD := if offE s c f = 0 then ⟨s.seq + 1, true, c, f⟩ else zeroSn
def outF (s : SndD) (r : Int) : FrD := if s.isOpen = true then ⟨1, r, s.seq, s.cell, s.flag⟩ else zeroF
def confB (s : SndD) (q : Int) : Bool := s.isOpen && decide (q = s.seq)
def confS (s : SndD) (q : Int) : SndD := if confB s q = true then ⟨s.seq, false, s.cell, s.flag⟩ else s
def freshB (a b : Int) : Bool := decide (a < b)
theorem off_range {s : SndD} {c f : Int} (h : c < 0 ∨ 48 ≤ c ∨ (f ≠ 0 ∧ f ≠ 1)) : offE s c f = 19 ∧ offS s c f = zeroSn := by
  have e : offE s c f = 19 := by unfold offE; rw [if_pos h]
  refine ⟨e, ?_⟩
  unfold offS; rw [e]; rfl
theorem off_full {s : SndD} {c f : Int} (h : ¬ (c < 0 ∨ 48 ≤ c ∨ (f ≠ 0 ∧ f ≠ 1))) (ho : s.isOpen = true) : offE s c f = 23 ∧ offS s c f = zeroSn := by
  have e : offE s c f = 23 := by unfold offE; rw [if_neg h, if_pos ho]
  refine ⟨e, ?_⟩
  unfold offS; rw [e]; rfl
theorem off_none {s : SndD} {c f : Int} (h : ¬ (c < 0 ∨ 48 ≤ c ∨ (f ≠ 0 ∧ f ≠ 1))) (ho : s.isOpen = false) (hs : s.seq = 18446744073709551615) : offE s c f = 25 ∧ offS s c f = zeroSn := by
  have e : offE s c f = 25 := by unfold offE; rw [if_neg h, ho, if_neg (by decide), if_pos hs]
  refine ⟨e, ?_⟩
  unfold offS; rw [e]; rfl
theorem off_ok {s : SndD} {c f : Int} (h : ¬ (c < 0 ∨ 48 ≤ c ∨ (f ≠ 0 ∧ f ≠ 1))) (ho : s.isOpen = false) (hs : s.seq ≠ 18446744073709551615) : offE s c f = 0 ∧ offS s c f = ⟨s.seq + 1, true, c, f⟩ := by
  have e : offE s c f = 0 := by unfold offE; rw [if_neg h, ho, if_neg (by decide), if_neg hs]
  refine ⟨e, ?_⟩
  unfold offS; rw [e]; rfl
end Go.Proofs.Ytpiofjhcagdklaa.Fl
