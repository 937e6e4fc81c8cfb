/- What the statements make of lists of numbers: bytes in rows of the call's own, tapes over arguments; and the contract of the statements' text. -/
import Derived.Test.YtpglhidhghhmoaaDoorFdSmall
import Derived.Test.YtpglhidhghhmoaaDoorFdScan
import Derived.Test.YtpglhidhghhmoaaDoorFdLines
import Derived.Test.YtpglhidhghhmoaaDoorFdDigits
import Derived.Test.YtpglhidhghhmoaaDoorTape
import Derived.Lib.BufferRead
import Derived.Deep.DeepCutAuto
import Derived.Deep.RegionWith
namespace Go.Proofs.YtpglhidhghhmoaaDoor
open Go.RowKit Fl
attribute [local go_sem] bget

/-- A byte as a cell. -/
abbrev Bv (c : UInt8) : Value := .int .u8 (c.toNat : Int)
theorem ownsRow_but {w w' : World} {base g : Nat} {e : TypeId} {size n : Nat} {v : Value} {xs : List Value} (h : w.ownsRow base e size v n xs) (hg : w.grownBy w' (some g)) (hlt : g < base) : w'.ownsRow base e size v n xs := by
  obtain ⟨h1, hr⟩ := h
  refine ⟨h1, ?_⟩
  rcases hr with hr | ⟨b, cap, cur, hv, hgb, hh, hrest⟩
  · exact .inl hr
  · exact .inr ⟨b, cap, cur, hv, hgb, (hg.block b (block_lt hh) (fun e => by injection e with e; omega)).trans hh, hrest⟩
set_option maxRecDepth 100000 in
/-- string(b), b a row of the call's own. -/
theorem conv_own {W : World} {base : Nat} {v : Value} {bs : List UInt8} (h : W.ownsRow base 5 1 v bs.length (bs.map Bv)) :
    Sem.run Tryd.prog (convert 94 9 v) W = .ok (.string ⟨bs.toArray⟩) W := by
  obtain ⟨A, c, rfl⟩ := own_slice h
  have hh := ownsRow_holds h
  rcases hh with hn | ⟨b, o, rfl, _, hc⟩
  · have hb : bs = [] := by simpa using hn
    subst hb
    rcases h.2 with ⟨hv, _⟩ | ⟨g, cap, cur, hv, _⟩
    · injection hv with hA _ hcc
      subst hA
      exact Lib.run_convert_nil_bytes W _ _ 5 _ Tryd.underlying94 Tryd.underlying5 Tryd.underlying9
    · injection hv with hA _ hcc
      subst hA
      exact run_convert_bytes_back (P := Tryd.prog) W 94 9 5 ⟨g, 0, none⟩ c [] Tryd.underlying94 Tryd.underlying5 Tryd.underlying9 (fun j hj => by simp at hj)
  · refine run_convert_bytes_back (P := Tryd.prog) W 94 9 5 ⟨b, o, none⟩ c bs Tryd.underlying94 Tryd.underlying5 Tryd.underlying9 (fun j hj => ?_)
    have e1 := hc j (by simpa using hj)
    have e2 : (⟨b, o, none⟩ : Addr).add j = ⟨b, o + j, none⟩ := by unfold Addr.add; split <;> simp_all
    rw [e2, e1]; simp
theorem Tryd.infoByte : (Tryd.prog.info? 5).map (fun i => (i.zero, i.size, i.bytes)) = some (some (.int .u8 0), 1, 1) := by kernel_rfl
/-- The list of numbers that an argument holds. -/
def IntsAt (w : World) (B : Nat) (A : Option Addr) (zs : List Int) : Prop :=
  0 < zs.length → ∃ b o, A = some ⟨b, o, none⟩ ∧ b < B ∧ ∀ j (h : j < zs.length), w.cell? ⟨b, o + j, none⟩ = some (.int .i64 zs[j]) ∧ -9223372036854775808 ≤ zs[j] ∧ zs[j] ≤ 9223372036854775807
theorem tape_new {w w1 : World} {B : Nat} {A : Option Addr} {c : Nat} {zs : List Int} (h : IntsAt w B A zs) (hB : B ≤ w.heap.size) (hb : Below w.heap.size w w1) (hl : zs.length ≤ maxLen) :
    TapeOk (w1.alloc (.cells #[.slice A zs.length c, .int .i64 0] 43)) B w1.heap.size 0 := by
  refine ⟨A, zs.length, c, 0, zs, heap_alloc_new w1 _, rfl, Nat.le_refl _, by have := hb.size; omega, hl, fun hn => ?_⟩
  obtain ⟨b, o, hA, hlt, hc⟩ := h hn
  refine ⟨b, o, hA, hlt, fun j hj => ⟨?_, (hc j hj).2⟩⟩
  have hbb : Below w.heap.size w (w1.alloc (.cells #[.slice A zs.length c, .int .i64 0] 43)) := hb.alloc hb.size _
  rw [hbb.cell (p := ⟨b, o + j, none⟩) (by show b < _; omega)]
  exact (hc j hj).1
theorem IntsAt.keep {w w' : World} {B : Nat} {A : Option Addr} {zs : List Int} (h : IntsAt w B A zs) (hB : B ≤ w.heap.size) (hb : Below w.heap.size w w') : IntsAt w' B A zs := fun hn => by
  obtain ⟨b, o, hA, hlt, hc⟩ := h hn
  exact ⟨b, o, hA, hlt, fun j hj => ⟨(hb.cell (p := ⟨b, o + j, none⟩) (by show b < _; omega)).trans (hc j hj).1, (hc j hj).2⟩⟩
theorem IntsAt.more {w : World} {B B' : Nat} {A : Option Addr} {zs : List Int} (h : IntsAt w B A zs) (hB : B ≤ B') : IntsAt w B' A zs := fun hn => by
  obtain ⟨b, o, hA, hlt, hc⟩ := h hn
  exact ⟨b, o, hA, by omega, hc⟩

abbrev tSigns : List UInt8 := [97, 98, 48, 45, 57, 95, 35, 32, 32, 9, 10, 10, 126, 33]
end Go.Proofs.YtpglhidhghhmoaaDoor
