/- The state of ChannelKeeps: the channel, the three frames, their balance, the tape. -/
import Derived.Test.YtckknakpmaagnaaCnMade
import Derived.Test.YtckknakpmaagnaaCnKnown
namespace Go.Proofs.Ytckknakpmaagnaa
open Go Go.RowKit Fl

def mixB (o n : Nat → Int) (j : Nat) : List Int := (List.range 3).map (fun i => if i < j then n i else o i)
theorem mix_get {o n : Nat → Int} {j : Nat} (h : j < 3) : (mixB o n j)[j]? = some (o j) := by simp [mixB, h]
theorem mix_len (o n : Nat → Int) (j : Nat) : (mixB o n j).length = 3 := by simp [mixB]
theorem mix_set (o n : Nat → Int) {j : Nat} (h : j < 3) : (mixB o n j).set j (n j) = mixB o n (j + 1) := by
  have : j = 0 ∨ j = 1 ∨ j = 2 := by omega
  rcases this with rfl | rfl | rfl <;> rfl
theorem mix_same {o n : Nat → Int} {j : Nat} (h : j < 3) (he : n j = o j) : mixB o n (j + 1) = mixB o n j := by
  have : j = 0 ∨ j = 1 ∨ j = 2 := by omega
  rcases this with rfl | rfl | rfl
  · show [n 0, o 1, o 2] = [o 0, o 1, o 2]; rw [he]
  · show [n 0, n 1, o 2] = [n 0, o 1, o 2]; rw [he]
  · show [n 0, n 1, n 2] = [n 0, n 1, o 2]; rw [he]
theorem mix_end (o n n' : Nat → Int) : mixB o n 3 = mixB n n' 0 := rfl
/-- How often each of the frames is in a list. -/
def cntA (all L : List FrD) (j : Nat) : Int := cntF L (all.getD j zeroF)
structure KS (X g bb b3 o3 : Nat) (all : List FrD) (w : World) (T : Nat) (wr : World) (v : Value) (L : List FrD) (zs : List Int) : Prop where
  own : OwnFr wr (bb + 1) v L
  all : Holds wr (some ⟨b3, o3, none⟩) (frC all)
  bal : wr.ownsRow bb 3 1 (.slice (some ⟨bb, 0, none⟩) 3 3) 3 (zs.map Iv)
  tape : TapeOk wr X g T
  below : Below X w wr
theorem holds_far {w w' : World} {b o r : Nat} {xs : List Value} (h : Holds w (some ⟨b, o, none⟩) xs) (hg : w.grownBy w' (some r)) (hr : b ≠ r) : Holds w' (some ⟨b, o, none⟩) xs := by
  rcases h with h | ⟨b', o', hA, hlt, hc⟩
  · exact .inl h
  · injection hA with hA
    injection hA with h1 h2
    subst h1 h2
    exact .inr ⟨b, o, rfl, Nat.lt_of_lt_of_le hlt hg.size, fun j hj => (World.cell?_of_block (hg.block b hlt (fun e => by injection e with e; exact hr e))).trans (hc j hj)⟩
theorem row_far {w w' : World} {base g n c r : Nat} {e : TypeId} {xs : List Value} (h : w.ownsRow base e 1 (.slice (some ⟨g, 0, none⟩) n c) n xs) (hg : w.grownBy w' (some r)) (hr : g ≠ r) : w'.ownsRow base e 1 (.slice (some ⟨g, 0, none⟩) n c) n xs := by
  obtain ⟨h1, hr2⟩ := h
  refine ⟨h1, ?_⟩
  rcases hr2 with hr2 | ⟨g', cap, cur, hv, hgb, hh, hrest⟩
  · exact .inl hr2
  · have hv2 := hv
    injection hv with hv
    injection hv with hv
    injection hv with hv
    subst hv
    exact .inr ⟨g, cap, cur, hv2, hgb, (hg.block g (block_lt hh) (fun e => by injection e with e; exact hr e)).trans hh, hrest⟩
variable {X g bb b3 o3 T : Nat} {all L : List FrD} {w wr wr' : World} {v : Value} {zs : List Int}
theorem KS.next (h : KS X g bb b3 o3 all w T wr v L zs) (ht : TapeOk wr' X g (T + 1)) (hg : wr.grownBy wr' (some g)) (h1 : X ≤ g) (h2 : g < b3) (h3 : b3 < bb) (hs : X ≤ wr.heap.size) : KS X g bb b3 o3 all w (T + 1) wr' v L zs :=
  ⟨own_farF h.own hg (by omega), holds_far h.all hg (by omega), row_far h.bal hg (by omega), ht, h.below.grown hg hs (fun k hk => by injection hk with hk; omega)⟩
theorem KS.call (h : KS X g bb b3 o3 all w T wr v L zs) (hb : Below wr.heap.size wr wr') (hs : X ≤ wr.heap.size) : KS X g bb b3 o3 all w T wr' v L zs :=
  ⟨h.own.keep hb, h.all.keep hb, ownsRow_below h.bal hb, h.tape.keep hb, h.below.trans (hb.mono hs)⟩
theorem KS.with (h : KS X g bb b3 o3 all w T wr v L zs) {v' : Value} {L' : List FrD} (ho : OwnFr wr (bb + 1) v' L') : KS X g bb b3 o3 all w T wr v' L' zs := ⟨ho, h.all, h.bal, h.tape, h.below⟩
theorem grown_cell (a : World) (X i : Nat) (v : Value) : a.grownBy (a.setCell ⟨X, i, none⟩ v) (some X) := ⟨rfl, rfl, rfl, by simp [World.setCell], fun k _ hne => Below.heap_setCell a ⟨X, i, none⟩ v k (fun e => hne (by rw [e]))⟩
theorem KS.put (h : KS X g bb b3 o3 all w T wr v L zs) (i : Nat) (z : Int) (h1 : X ≤ g) (h2 : g < b3) (h3 : b3 < bb) (hs : X ≤ wr.heap.size) : KS X g bb b3 o3 all w T (wr.setCell ⟨bb, i, none⟩ (Iv z)) v L (zs.set i z) :=
  ⟨own_farF h.own (grown_cell _ _ _ _) (by omega), holds_far h.all (grown_cell _ _ _ _) (by omega), by rw [List.map_set]; exact own_put h.bal, h.tape.grown (grown_cell _ _ _ _) (fun e => by injection e with e; omega) (fun k hk => by injection hk with hk; omega), h.below.grown (grown_cell _ _ _ _) hs (fun k hk => by injection hk with hk; omega)⟩
theorem KS.drewN (h : KS X g bb b3 o3 all w T wr v L zs) (hs : X ≤ wr.heap.size) (n : Nat) : KS X g bb b3 o3 all w T (wr.drewN n) v L zs := h.call (below_drewN (Below.refl _ _) n) hs
theorem own_putF {base b' i : Nat} {v' : Value} {L' : List FrD} {z : Value} (h : OwnFr wr base v' L') (hb : b' < base) : OwnFr (wr.setCell ⟨b', i, none⟩ z) base v' L' := own_farF h (grown_cell _ _ _ _) hb
theorem cntA_lt {all L : List FrD} {j : Nat} (h : j < all.length) : cntA all L j = cntF L all[j] := by simp [cntA, h]
theorem cntA_bound {all L : List FrD} (h : L.length ≤ 6) (j : Nat) : 0 ≤ cntA all L j ∧ cntA all L j ≤ 6 := by
  unfold cntA
  have := cnt_le L (all.getD j zeroF)
  omega
theorem cntA_send {all L : List FrD} (f : FrD) {j : Nat} (hj : j < all.length) (h : L.length ≤ 6) : cntA all (sendL L f) j = cntA all L j + (if all[j] = f then ((sendL L f).length : Int) - L.length else 0) := by
  rw [cntA_lt hj, cntA_lt hj]; exact cnt_send f all[j] h
theorem cntA_drop {all L : List FrD} {i j : Nat} (hj : j < all.length) (hi : i < L.length) : cntA all (dropL L i) j = cntA all L j - (if all[j] = L[i] then 1 else 0) := by
  rw [cntA_lt hj, cntA_lt hj]; exact cnt_drop hi all[j]
theorem KS.more {T' : Nat} (h : KS X g bb b3 o3 all w T wr v L zs) (hT : T ≤ T') : KS X g bb b3 o3 all w T' wr v L zs := ⟨h.own, h.all, h.bal, h.tape.more hT, h.below⟩
theorem KS.holds {A : Option Addr} {n c : Nat} (h : KS X g bb b3 o3 all w T wr (.slice A n c) L zs) : Holds wr A (frC L) := by
  obtain ⟨A', c', h1, _, h3⟩ := own_frs h.own
  injection h1 with h1
  subst h1
  exact h3
theorem KS.frm {b o n c : Nat} (h : KS X g bb b3 o3 all w T wr (.slice (some ⟨b, o, none⟩) n c) L zs) {i : Nat} (hi : i < L.length) : FrmIn wr b (o + i * 5) L[i] := by
  obtain ⟨b', o', h1, _, h3⟩ := holds_frm h.holds hi
  injection h1 with h1
  injection h1 with p1 p2
  subst p1 p2
  exact h3
theorem KS.cell (h : KS X g bb b3 o3 all w T wr v L zs) {j : Nat} {z : Int} (hj : zs[j]? = some z) : wr.cell? ⟨bb, j, none⟩ = some (Iv z) ∧ wr.frozen? ⟨bb, j, none⟩ = false := own_get h.bal (by rw [List.getElem?_map, hj]; rfl)
end Go.Proofs.Ytckknakpmaagnaa
