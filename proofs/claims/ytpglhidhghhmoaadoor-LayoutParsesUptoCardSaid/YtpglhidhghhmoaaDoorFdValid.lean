/- Contracts of fields.validField and fields.validLines. -/
import Derived.Test.YtpglhidhghhmoaaDoorFdJoinSpec
import Derived.Test.YtpglhidhghhmoaaDoorFdSame
import Derived.Test.YtpglhidhghhmoaaDoorFdSameL
import Derived.Test.YtpglhidhghhmoaaDoorFdName
namespace Go.Proofs.YtpglhidhghhmoaaDoor
open Go.RowKit Fl
attribute [local go_sem] bget

/-- From address A on, the cells hold the lines ls: each a number and a slice of its fields. -/
def RawAt (w : World) (A : Option Addr) (ls : List LineI) : Prop := ls = [] ∨ ∃ b o, A = some ⟨b, o, none⟩ ∧ b < w.heap.size ∧
  ∀ k (h : k < ls.length), ∃ A' c', w.cell? ⟨b, o + k * 2, none⟩ = some (.int .i64 ls[k].1) ∧ w.cell? ⟨b, o + k * 2 + 1, none⟩ = some (.slice A' ls[k].2.length c') ∧ ls[k].2.length ≤ c' ∧ Holds w A' (ls[k].2.map S)
theorem RawAt.keep {w w' : World} {A : Option Addr} {ls : List LineI} (h : RawAt w A ls) (hb : Below w.heap.size w w') : RawAt w' A ls := by
  rcases h with h | ⟨b, o, hA, hlt, hc⟩
  · exact .inl h
  · refine .inr ⟨b, o, hA, Nat.lt_of_lt_of_le hlt hb.size, fun k hk => ?_⟩
    obtain ⟨A', c', h1, h2, h3, h4⟩ := hc k hk
    exact ⟨A', c', (hb.cell (p := ⟨b, o + k * 2, none⟩) hlt).trans h1, (hb.cell (p := ⟨b, o + k * 2 + 1, none⟩) hlt).trans h2, h3, h4.keep hb⟩
theorem RawAt.line {w : World} {A : Option Addr} {ls : List LineI} (h : RawAt w A ls) {k : Nat} (hk : k < ls.length) :
    ∃ b o A' c', A = some ⟨b, o, none⟩ ∧ w.cell? ⟨b, o + k * 2, none⟩ = some (.int .i64 ls[k].1) ∧ w.cell? ⟨b, o + k * 2 + 1, none⟩ = some (.slice A' ls[k].2.length c') ∧ ls[k].2.length ≤ c' ∧ Holds w A' (ls[k].2.map S) := by
  rcases h with rfl | ⟨b, o, hA, _, hc⟩
  · simp at hk
  · obtain ⟨A', c', h1, h2, h3, h4⟩ := hc k hk
    exact ⟨b, o, A', c', hA, h1, h2, h3, h4⟩

end Go.Proofs.YtpglhidhghhmoaaDoor
