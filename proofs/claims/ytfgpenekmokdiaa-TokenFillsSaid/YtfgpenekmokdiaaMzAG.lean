/- Joined texts. -/
import Derived.RangeFuncFrom
import Derived.RangeFuncCalls
import Derived.RangeFuncBox
import Derived.RangeFuncLeaves
import Derived.Shelf.Abstract
import Derived.WalkKit
import Derived.OwnWalkIn
import Derived.TacticsInMore
import Derived.LoopNIn
import Derived.LoopIn
import Derived.Maps.AppendAt
import Derived.Test.YtfgpenekmokdiaaMzAF
import Derived.Test.YtfgpenekmokdiaaShelf
import Derived.Test.YtfgpenekmokdiaaMzAB
namespace Go.Proofs.Ytfgpenekmokdiaa
open Go Go.RowKit Go.Shelf Go.Maps Fl

attribute [local go_sem] Oper.semAt_some

/-- Two blocks stay as they are. -/
def KeepTw (b1 b2 : Nat) (W W' : World) : Prop := W'.heap[b1]? = W.heap[b1]? ∧ W'.heap[b2]? = W.heap[b2]?
theorem KeepTw.refl (b1 b2 : Nat) (W : World) : KeepTw b1 b2 W W := ⟨rfl, rfl⟩
theorem KeepTw.trans {b1 b2 : Nat} {A B C : World} (h : KeepTw b1 b2 A B) (k : KeepTw b1 b2 B C) : KeepTw b1 b2 A C := ⟨k.1.trans h.1, k.2.trans h.2⟩
theorem take_more {zs : List Int} {p : Nat} (h : p < zs.length) : zs.take p ++ [zs[p]] = zs.take (p + 1) := by rw [List.take_succ_eq_append_getElem h]
set_option maxRecDepth 100000 in
set_option maxHeartbeats 2000000 in
theorem vals1_in (F : Fence) (n : Nat) (hF : F.fn 79) (hro : F.round = none) (hn : 1 ≤ n) (l Bs b o cap : Nat) (zs : List Int) (hreach : zs.length ≤ 1000000) (J Jx : List Int → World → Prop)
    (hY : ∀ pre x W, J pre W → pre.length < zs.length → YieldAt F (n - 1) Try.prog l #[.int .i64 x] W fun e W' =>
      (e = .returned (.bool true) ∧ J (pre ++ [x]) W' ∧ KeepTw b Bs W W') ∨ (e = .returned (.bool false) ∧ Jx (pre ++ [x]) W'))
    (W : World) (hBs : W.cell? ⟨Bs, 0, none⟩ = some (.slice (some ⟨b, o, none⟩) zs.length cap)) (hc : ∀ j (h : j < zs.length), W.cell? ⟨b, o + j, none⟩ = some (.int .i64 zs[j])) (h0 : J [] W) :
    CallsIn F n Try.prog 79 #[.func (.yield l) #[] #[], .pointer (some ⟨Bs, 0, none⟩)] W fun e W' => (∃ v, e = .returned v) ∧
      ((∃ ys, ys = zs ∧ J ys W') ∨ (∃ pre : List Int, True ∧ Jx pre W')) := by
  refine callsIn_of_wp Try.func79 rfl hF ?_ hro
  simp only [Try.ntmps79, List.size_toArray, List.length_cons, List.length_nil, Nat.reduceAdd, Nat.reduceSub, Array.replicate_succ, Array.replicate_zero, List.push_toArray, List.append_toArray, List.nil_append, List.cons_append]
  gi_wp2
  gi_loopw [7] (fun i wr => ∃ m : Nat, m ≤ zs.length ∧ i = .int .i64 (m : Int) ∧ J (zs.take m) wr ∧ KeepTw b Bs W wr)
    (fun i _ => zs.length - (intOf i).toNat)
  case atStart => exact ⟨0, Nat.zero_le _, rfl, by rw [List.take_zero]; exact h0, KeepTw.refl _ _ _⟩
  case round =>
    obtain ⟨m, hm, rfl, hJs, hk⟩ := hrel
    by_cases hp : m < zs.length
    · have hcp : wr.cell? ⟨b, o + m, none⟩ = some (.int .i64 zs[m]) := (World.cell?_of_block (w := W) hk.1).trans (hc m hp)
      obtain ⟨fn, tmps, assign, body, hy, hR⟩ := hY _ zs[m] wr hJs (by rw [List.length_take]; omega)
      have hmore := take_more hp
      generalize zs[m] = x at *
      gi_wp2
      refine hR.mono ?_
      rintro e W3 (⟨rfl, hJ3, hk3⟩ | ⟨rfl, hJx3⟩)
      · gi_wp2
        go_roundw
        case rel => exact ⟨m + 1, by omega, by go_num, by rw [← hmore]; exact hJ3, hk.trans hk3⟩
        case measure => simp [intOf]; omega
      · gi_wp2
        refine bodyPost_ret (results_none rfl _ _ _) rfl ?_
        exact ⟨⟨_, rfl⟩, .inr ⟨_, trivial, hJx3⟩⟩
    · obtain rfl : m = zs.length := by omega
      rw [List.take_length] at hJs
      gi_wp2
      go_end0
      exact ⟨⟨_, rfl⟩, .inl ⟨_, rfl, hJs⟩⟩
set_option maxRecDepth 100000 in
set_option maxHeartbeats 1000000 in
/-- .. at no list: no round. -/
theorem vals1_nil_in (F : Fence) (n : Nat) (hF : F.fn 79) (hro : F.round = none) (l Bs : Nat) (J : List Int → World → Prop) (A : Option Addr) (cap : Nat) (W : World) (hBs : W.cell? ⟨Bs, 0, none⟩ = some (.slice A 0 cap)) (h0 : J [] W) :
    CallsIn F n Try.prog 79 #[.func (.yield l) #[] #[], .pointer (some ⟨Bs, 0, none⟩)] W fun e W' => (∃ v, e = .returned v) ∧ J [] W' := by
  refine callsIn_of_wp Try.func79 rfl hF ?_ hro
  simp only [Try.ntmps79, List.size_toArray, List.length_cons, List.length_nil, Nat.reduceAdd, Nat.reduceSub, Array.replicate_succ, Array.replicate_zero, List.push_toArray, List.append_toArray, List.nil_append, List.cons_append]
  gi_wp2
  gi_loopw [7] (fun i wr => i = .int .i64 0 ∧ J [] wr) (fun _ _ => 0)
  case atStart => exact ⟨rfl, h0⟩
  case round =>
    obtain ⟨rfl, hJs⟩ := hrel
    gi_wp2
    go_end0
    exact ⟨⟨_, rfl⟩, hJs⟩
theorem vals_stops (F : Fence) (n : Nat) (hF : F.fn 79) (hro : F.round = none) (hn : 1 ≤ n) (Bs b o cap : Nat) (A : Option Addr) (zs : List Int) (hreach : zs.length ≤ 1000000) (w : World) (hBs : Bs < w.heap.size) (hb : 0 < zs.length → A = some ⟨b, o, none⟩ ∧ b < w.heap.size)
    (hc : w.cell? ⟨Bs, 0, none⟩ = some (.slice A zs.length cap)) (hcs : ∀ j (h : j < zs.length), w.cell? ⟨b, o + j, none⟩ = some (.int .i64 zs[j])) :
    SeqStopsK F n Try.prog 79 #[.pointer (some ⟨Bs, 0, none⟩)] (fun x : Int => #[Value.int .i64 x]) (KeepTw b Bs) (fun ys => ys = zs) (fun _ => True) zs.length w := fun l J Jx W hW _ _ hY h0 => by
  have hc' := (hW.cell (p := ⟨Bs, 0, none⟩) hBs).trans hc
  rcases Nat.eq_zero_or_pos zs.length with hz | hz
  · obtain rfl : zs = [] := List.eq_nil_of_length_eq_zero hz
    exact (vals1_nil_in F n hF hro l Bs J A cap W hc' h0).mono fun e W' ⟨he, hj⟩ => ⟨he, .inl ⟨_, rfl, hj⟩⟩
  · obtain ⟨rfl, hbl⟩ := hb hz
    exact vals1_in F n hF hro hn l Bs b o cap zs hreach J Jx hY W hc' (fun j hj => (hW.cell (p := ⟨b, o + j, none⟩) hbl).trans (hcs j hj)) h0
set_option maxHeartbeats 1000000 in
theorem values_c (A : Option Addr) (len cap : Nat) (w : World) :
    Calls Try.prog 69 #[.slice A len cap] w fun e w' => e = .returned (.func (.func 79) #[] #[.pointer (some ⟨w.heap.size, 0, none⟩)]) ∧ w' = w.alloc (.cells #[.slice A len cap] 23) := by
  go_enter Try.func69, Try.ntmps69
  go_wp2
  go_ret
  exact ⟨rfl, rfl⟩
theorem own_cells {w : World} {base n : Nat} {e : TypeId} {v : Value} {xs : List Value} (h : w.ownsRow base e 1 v n xs) {j : Nat} {o : Obj} (hj : v.ownBlock = some j) (ho : w.heap[j]? = some o) : o.isCells = true := by
  obtain ⟨_, hr⟩ := h
  rcases hr with ⟨rfl, _⟩ | ⟨q, cp, cur, rfl, _, hh, _⟩
  · cases hj
  · have hq : q = j := by
      injection hj
    subst hq
    rw [hh] at ho
    injection ho with ho
    subst ho
    rfl
/-- Between two rounds: the box holds a slice of what has come. -/
def AppI (Bx base : Nat) (w0 : World) (pre : List Int) (W : World) : Prop :=
  ∃ v, ArrC W Bx 23 [v] ∧ W.ownsRow (Bx + 1) 3 1 v pre.length (pre.map Iv) ∧ Below base w0 W ∧ Bx + 1 ≤ W.heap.size
theorem appI_own {Bx base B : Nat} {w0 : World} (hB : base ≤ B) (hx : base ≤ Bx) : OwnFrom B (AppI Bx base w0) := by
  rintro pre W W' row ⟨v, h1, h2, h3, h4⟩ hg hr
  have hbW : base ≤ W.heap.size := by omega
  have key : ∀ {b : Nat} {t : TypeId} {l : List Value}, ArrC W b t l → ArrC W' b t l := fun {b t l} h => h.grown hg fun e => by
    obtain ⟨_, o, ho, hn⟩ := hr b e.symm
    unfold ArrC at h
    rw [h] at ho
    injection ho with ho
    subst ho
    simp [Obj.isCells] at hn
  refine ⟨v, key h1, ?_, h3.grown hg hbW (fun k e => Nat.le_trans hB (hr k e).1), Nat.le_trans h4 hg.size⟩
  obtain ⟨g1, g2⟩ := h2
  refine ⟨g1, ?_⟩
  rcases g2 with g2 | ⟨q, cap, cur, hv, hq, hh, r⟩
  · exact .inl g2
  · refine .inr ⟨q, cap, cur, hv, hq, (hg.block q (block_lt hh) fun e => ?_).trans hh, r⟩
    obtain ⟨_, o, ho, hn⟩ := hr q e.symm
    rw [hh] at ho
    injection ho with ho
    subst ho
    simp [Obj.isCells] at hn
set_option pp.deepTerms true in
set_option maxRecDepth 100000 in
set_option maxHeartbeats 8000000 in
theorem appendSeq_c (A : Option Addr) (cap Bs : Nat) (zs : List Int) (w : World) (hBs : w.cell? ⟨Bs, 0, none⟩ = some (.slice A zs.length cap)) (hh : Holds w A (zs.map Iv)) (hl : zs.length ≤ 1000) :
    Calls Try.prog 82 #[.slice none 0 0, .func (.func 79) #[] #[.pointer (some ⟨Bs, 0, none⟩)]] w fun e w' => ∃ u, e = .returned u ∧ w'.ownsRow w.heap.size 3 1 u zs.length (zs.map Iv) ∧ Below w.heap.size w w' := by
  obtain ⟨i0, hi, hz0, hz1, hz2⟩ := info_parts Try.infoIntG
  have hBl : Bs < w.heap.size := World.block_lt_of_cell? _ _ hBs
  obtain ⟨b, o, hb1, hb2, hb3⟩ : ∃ b o, b < w.heap.size ∧ (0 < zs.length → A = some ⟨b, o, none⟩) ∧ ∀ j (h : j < zs.length), w.cell? ⟨b, o + j, none⟩ = some (.int .i64 zs[j]) := by
    rcases Nat.eq_zero_or_pos zs.length with h0 | h0
    · exact ⟨Bs, 0, hBl, fun h => by omega, fun j h => by omega⟩
    · obtain ⟨b, o, hA, e⟩ := hh.iv h0
      refine ⟨b, o, World.block_lt_of_cell? _ _ e, fun _ => hA, fun j hj => ?_⟩
      obtain ⟨b', o', hA', e'⟩ := hh.iv hj
      rw [hA] at hA'
      injection hA' with hA'
      injection hA' with q1 q2
      subst q1 q2
      exact e'
  have HB0 := Lib.hid ((Below.refl w.heap.size w).alloc (Nat.le_refl _) (.cells #[.slice none 0 0] 23))
  have HI0 : Hid (AppI w.heap.size w.heap.size w [] (w.alloc (.cells #[.slice none 0 0] 23))) := Lib.hid ⟨.slice none 0 0, heap_alloc_new _ _, World.ownsRow_nil _ _ _ _, HB0.out, by simp⟩
  have CV := vals_stops Fence.wide (5 - 1) trivial rfl (by omega) Bs b o cap A zs (by omega) (w.alloc (.cells #[.slice none 0 0] 23)) (by simp; omega) (fun h => ⟨hb2 h, by simp; omega⟩) ((HB0.out.cell (p := ⟨Bs, 0, none⟩) hBl).trans hBs) (fun j hj => (HB0.out.cell (p := ⟨b, o + j, none⟩) hb1).trans (hb3 j hj))
  have hsz0 : (w.alloc (.cells #[.slice none 0 0] 23)).heap.size = w.heap.size + 1 := by simp
  have HCV := Lib.hid CV
  clear CV hBs hh hb2 hb3
  refine (callsIn_wide (n := 5)).1 ?_
  refine callsIn_of_wp_marks Try.func82 rfl trivial ?_ rfl
  simp only [Try.ntmps82, List.size_toArray, List.length_cons, List.length_nil, Nat.reduceAdd, Nat.reduceSub, Array.replicate_succ, Array.replicate_zero, List.push_toArray, List.append_toArray, List.nil_append, List.cons_append]
  refine wpIn_wide.2 ?_
  go_wp2
  generalize hw0 : w.alloc (.cells #[.slice none 0 0] 23) = w0 at *
  refine wpIn_wide.1 (?_ : Code.wpIn Fence.wide 5 _ _ _ _ _)
  refine wpIn_rangeFunc_ownF (F := Fence.wide) (n := 5) rfl (by omega) (gf := 79) (lb := #[.pointer (some ⟨Bs, 0, none⟩)]) rfl trivial (enters_of Try.func79 (by kernel_rfl) rfl) HCV.out (fun h k => h.trans k)
    (fun W l o o' hl _ _ _ => ⟨World.putObj_heap_other (by omega), World.putObj_heap_other (by omega)⟩) (Below.refl _ _) (fun _ => rfl)
    (AppI w.heap.size w.heap.size w) (fun _ _ _ => False) (appI_own (by omega) (Nat.le_refl _)) (fun _ _ _ _ _ h _ _ => h) HI0.out
    (fun x => { tmps := #[.slice none 0 0, .func (.func 79) #[] #[.pointer (some ⟨Bs, 0, none⟩)], .pointer (some ⟨w.heap.size, 0, none⟩), undef, .slice none 0 0, .int .i64 x, .func (.func 79) #[] #[.pointer (some ⟨Bs, 0, none⟩)], .int .i64 x, undef, undef, undef, undef, undef], defers := [] }) ?assign ?body ?done ?stop
  case assign =>
    intro l x W K hK
    gi_wp2
    exact hK
  case body =>
    rintro l pre x W ⟨v, hbx, hrow, hbl, hsz⟩ hlen
    obtain ⟨e1, f1⟩ := hbx.cell (k := 0) (u := v) rfl
    have hlt := hrow.lt
    have HRow := Lib.hid hrow
    have hBx := hbx.lt
    gi_wp2_with (gi_at_builtin; refine wpListIn_append_own _ rfl _ _ 23 rfl (w.heap.size + 1) 3 i0 (.int .i64 0) 1 8 Try.underlying23 hi hz0 hz1 hz2 rfl (by decide) _ _ _ rfl (HRow.out.alloc _) ⟨W.heap.size, 0, none⟩ 1 1 [.int .i64 x] rfl rfl (cell_one_new _ _ _) (by simp [Value.oneCell']) (by unfold maxLen; omega) (by omega) (by simp; omega) ?_; intro v' w3 hown' hg3 hnil3; obtain ⟨A8, c8, rfl, _⟩ := own_is hown'; have hneB : some w.heap.size ≠ v.ownBlock := (fun e => by have := (hlt w.heap.size e.symm).1; omega); have hbB : w3.heap[w.heap.size]? = W.heap[w.heap.size]? := (hg3.block w.heap.size (by simp; omega) hneB).trans (Below.heap_alloc _ _ _ hBx); have hbx3 : ArrC w3 w.heap.size 23 [v] := hbx.same hbB; have q1 := (hbx3.cell (k := 0) (u := v) rfl).1; have q2 := (hbx3.cell (k := 0) (u := v) rfl).2)
    have hv8 := hown'.lt
    have hown2 : w3.ownsRow (w.heap.size + 1) 3 1 (.slice A8 (pre.length + 1) c8) (pre ++ [x]).length ((pre ++ [x]).map Iv) := by rw [List.length_append, List.map_append]; exact hown'
    have hk8 : KeepsOthers W w3 := (KeepsOthers.alloc W (.cells #[.int .i64 x] 3)).trans (KeepsOthers.of_grownBy hg3 (fun j o hj ho => by
      exact own_cells (HRow.out.alloc (.cells #[.int .i64 x] 3)) hj ho))
    have hne8 : ∀ k, k < w.heap.size → some k ≠ v.ownBlock := fun k hk e => by have := (hlt k e.symm).1; omega
    have hblk : ∀ k, k < w.heap.size → w3.heap[k]? = W.heap[k]? := fun k hk => (hg3.block k (by simp; omega) (hne8 k hk)).trans (Below.heap_alloc _ _ _ (by omega))
    have hbl8 : Below w.heap.size w w3 := (hbl.alloc hbl.size _).grown hg3 (by have := hbl.size; simp; omega) (fun k hk => by have := (hlt k hk).1; omega)
    refine ⟨hk8.trans (KeepsOthers.setCell _ _ _), ⟨?_, ?_⟩, .slice A8 (pre.length + 1) c8, ?_, ?_, below_put hbl8 (Nat.le_refl _), by have := hg3.size; simp at this; simp [World.setCell]; omega⟩
    · exact (Below.heap_setCell _ _ _ _ (show b ≠ w.heap.size by omega)).trans (hblk b hb1)
    · exact (Below.heap_setCell _ _ _ _ (show Bs ≠ w.heap.size by omega)).trans (hblk Bs hBl)
    · exact hbx3.set 0 _
    · obtain ⟨g1, g2⟩ := hown2
      refine ⟨g1, ?_⟩
      rcases g2 with g2 | ⟨q, cp, cur, hv, hq, hh, r⟩
      · exact .inl g2
      · exact .inr ⟨q, cp, cur, hv, hq, (Below.heap_setCell _ _ _ _ (show q ≠ w.heap.size by omega)).trans hh, r⟩
  case done =>
    rintro D ys W hD rfl ⟨v, hbx, hrow, hbl, hsz⟩ hK
    obtain ⟨e1, f1⟩ := hbx.cell (k := 0) (u := v) rfl
    have HK := Lib.hid hK
    have hlt := hrow.lt
    obtain ⟨A8, c8, rfl, _⟩ := own_is hrow
    have HRow := Lib.hid hrow
    clear hK hrow
    go_wp2
    refine ⟨by simp, .inl ⟨_, _, rfl, run_takeDeferred HK.out, ?_⟩⟩
    refine ⟨_, results_tmp rfl _ _ _, ?_⟩
    refine ⟨.slice A8 ys.length c8, rfl, ?_, hbl.trans ⟨rfl, rfl, rfl, by simp, fun k hk => World.putObj_heap_other (by omega)⟩⟩
    obtain ⟨g1, g2⟩ := HRow.out
    refine ⟨g1, ?_⟩
    rcases g2 with g2 | ⟨q, cp, cur, hv, hq, hh, r⟩
    · exact .inl g2
    · refine .inr ⟨q, cp, cur, hv, by omega, (World.putObj_heap_other (fun e => ?_)).trans hh, r⟩
      have h2 := HK.out
      first
        | (rw [e, hh] at h2; cases h2)
        | (rw [← e, hh] at h2; cases h2)
  case stop =>
    rintro D c pre W _ _ h _
    exact h.elim
set_option maxHeartbeats 1000000 in
theorem collect_c (A : Option Addr) (cap Bs : Nat) (zs : List Int) (w : World) (hBs : w.cell? ⟨Bs, 0, none⟩ = some (.slice A zs.length cap)) (hh : Holds w A (zs.map Iv)) (hl : zs.length ≤ 1000) :
    Calls Try.prog 77 #[.func (.func 79) #[] #[.pointer (some ⟨Bs, 0, none⟩)]] w fun e w' => ∃ u, e = .returned u ∧ w'.ownsRow w.heap.size 3 1 u zs.length (zs.map Iv) ∧ Below w.heap.size w w' := by
  have CA := Lib.hid (appendSeq_c A cap Bs zs w hBs hh hl)
  clear hBs hh
  go_enter Try.func77, Try.ntmps77
  go_wp2_with fail
  refine CA.out.mono ?_
  rintro e w1 ⟨u, rfl, hu, hb⟩
  have HU := Lib.hid hu
  have HB := Lib.hid hb
  clear hu hb CA
  go_wp2
  go_ret
  exact ⟨_, rfl, HU.out, HB.out⟩
end Go.Proofs.Ytfgpenekmokdiaa
namespace Go.Proofs.Ytfgpenekmokdiaa
open Go Go.RowKit Fl

theorem arr_getT {l : List Int} {j : Nat} (hj : j < l.length) : l.toArray[j]! = l[j] := by
  rw [getElem!_pos _ j (by simpa using hj)]
  simp
theorem heap_mapBlockT (w : World) (b : Nat) (f : Array Value → Array Value) {c : Array Value} {t : TypeId} {fr : Nat × Nat} (h : w.heap[b]? = some (.cells c t fr)) : (Sort.mapBlock w b f).heap[b]? = some (.cells (f c) t fr) := by
  unfold Sort.mapBlock
  simp only [Array.getElem?_modify, if_true]
  rw [h]
  rfl
theorem heap_mapBlock_otherT (w : World) (b k : Nat) (f : Array Value → Array Value) (h : k ≠ b) : (Sort.mapBlock w b f).heap[k]? = w.heap[k]? := by
  unfold Sort.mapBlock
  simp only [Array.getElem?_modify]
  rw [if_neg (fun e => h e.symm)]
theorem own_putRowT {W : World} {base b n cap : Nat} {l d : List Int} (h : W.ownsRow base 3 1 (.slice (some ⟨b, 0, none⟩) n cap) n (l.map Iv)) (hd : d.length = n) :
    (Sort.putRow (Value.int .i64) W b 0 d.toArray).ownsRow base 3 1 (.slice (some ⟨b, 0, none⟩) n cap) n (d.map Iv) := by
  obtain ⟨_, h2⟩ := h
  rcases h2 with ⟨hv, _⟩ | ⟨g', cap', cur, hv, hg, hh, hnc, hcm, hcs, hx⟩
  · cases hv
  · injection hv with hA _ hc
    injection hA with hA
    injection hA with hA
    subst hA hc
    refine ⟨by simp [hd], .inr ⟨b, cap, Sort.putCells (Value.int .i64) 0 d.toArray cur, rfl, hg, heap_mapBlockT W b _ hh, hnc, hcm, by simpa [Sort.putCells] using hcs, ?_⟩⟩
    refine List.ext_getElem? fun i => ?_
    rw [List.getElem?_take, List.getElem?_map]
    have hn1 : n * 1 = n := Nat.mul_one n
    by_cases hi : i < n
    · rw [if_pos (by omega)]
      have hic : i < cur.size := by omega
      have hid : i < d.length := by omega
      rw [List.getElem?_eq_getElem (l := d) hid]
      simp only [Sort.putCells, Array.getElem?_toList, Array.getElem?_mapIdx, Array.getElem?_eq_getElem hic, Option.map_some, Nat.zero_le, true_and, Nat.zero_add, List.size_toArray, Nat.sub_zero]
      rw [if_pos hid, arr_getT hid]
    · rw [if_neg (by omega), List.getElem?_eq_none (by omega)]
      rfl
theorem putRow_otherT (W : World) (b k : Nat) (d : Array Int) (h : k ≠ b) : (Sort.putRow (Value.int .i64) W b 0 d).heap[k]? = W.heap[k]? := heap_mapBlock_otherT W b k _ h
theorem own_growT {W : World} {base n : Nat} {e : TypeId} {u : Value} {xs : List Value} (h : W.ownsRow base e 1 u n xs) (os : Array Obj) : (Sort.grow W os).ownsRow base e 1 u n xs := by
  obtain ⟨h1, h2⟩ := h
  refine ⟨h1, ?_⟩
  rcases h2 with h2 | ⟨g, cap, cur, hv, hg, hh, hrest⟩
  · exact .inl h2
  · refine .inr ⟨g, cap, cur, hv, hg, ?_, hrest⟩
    show (W.heap ++ os)[g]? = _
    rw [Array.getElem?_append_left (block_lt hh)]
    exact hh
def srtL (zs : List Int) : List Int := zs.mergeSort fun x y => decide (x ≤ y)
theorem srtL_length (zs : List Int) : (srtL zs).length = zs.length := List.length_mergeSort _
set_option maxRecDepth 100000 in
set_option maxHeartbeats 4000000 in
theorem sorted_c (A : Option Addr) (cap Bs : Nat) (zs : List Int) (w : World) (hBs : w.cell? ⟨Bs, 0, none⟩ = some (.slice A zs.length cap)) (hh : Holds w A (zs.map Iv)) (hl : zs.length ≤ 1000) :
    Calls Try.prog 68 #[.func (.func 79) #[] #[.pointer (some ⟨Bs, 0, none⟩)]] w fun e w' => ∃ u, e = .returned u ∧ w'.ownsRow w.heap.size 3 1 u zs.length ((srtL zs).map Iv) ∧ Below w.heap.size w w' := by
  have CA := Lib.hid (collect_c A cap Bs zs w hBs hh hl)
  clear hBs hh
  go_enter Try.func68, Try.ntmps68
  go_wp2_with fail
  refine CA.out.mono ?_
  rintro e w1 ⟨u, rfl, hu, hb⟩
  have HB := Lib.hid hb
  clear hb CA
  rcases Nat.eq_zero_or_pos zs.length with hz | hz
  · obtain rfl : zs = [] := List.eq_nil_of_length_eq_zero hz
    obtain ⟨A5, c5, rfl, _⟩ := own_is hu
    have hu0 : w1.ownsRow w.heap.size 3 1 (.slice A5 0 c5) 0 [] := hu
    have HU := Lib.hid hu0
    have CS := Lib.hid (Try.slices_Sort_int_none A5 c5 w1)
    clear hu hu0
    go_wp2_with fail
    refine CS.out.mono ?_
    rintro e w2 ⟨rfl, rfl⟩
    clear CS
    go_wp2
    go_ret
    exact ⟨_, rfl, by rw [show srtL [] = [] from by simp [srtL]]; exact HU.out, HB.out⟩
  · obtain ⟨b5, c5, rfl, hb5, hcap⟩ := own_at hu hz
    have hb5w := own_blk hu
    have hsl := srtL_length zs
    have hSort : (zs.mergeSort fun x y => decide (x ≤ y)) = srtL zs := rfl
    obtain ⟨sv, hsv⟩ : ∃ sv, srtL zs = sv := ⟨_, rfl⟩
    rw [hsv] at hsl hSort
    have HSv := Lib.hid hsv
    clear hsv
    have HHo : Sort.Holds (Value.int .i64) w1 b5 0 zs.toArray := fun j hj => by
      have hj' : j < zs.length := by simpa using hj
      rw [Nat.zero_add, arr_getT hj']
      exact own_get hu (by rw [List.getElem?_map, List.getElem?_eq_getElem hj']; rfl)
    have CS := Try.slices_Sort_int b5 0 c5 zs w1 HHo hb5w (by omega)
    rw [hSort] at CS
    have HCS := Lib.hid CS
    have HO5 := Lib.hid hu
    clear CS HHo hu hSort
    go_wp2_with fail
    refine HCS.out.mono ?_
    rintro e w6 ⟨rfl, nd, os, hw6⟩
    have o6 : w6.ownsRow w.heap.size 3 1 (.slice (some ⟨b5, 0, none⟩) zs.length c5) zs.length (sv.map Iv) := by
      rw [hw6]
      exact own_growT (own_putRowT (W := Sort.ahead w1 nd) HO5.out hsl) os
    have hk6 : Below w.heap.size w1 w6 := by
      refine ⟨by rw [hw6]; rfl, by rw [hw6]; rfl, by rw [hw6]; rfl, ?_, fun b hb => ?_⟩
      · rw [hw6]
        show _ ≤ ((Sort.putRow (Value.int .i64) (Sort.ahead w1 nd) b5 0 sv.toArray).heap ++ os).size
        rw [Array.size_append, Sort.size_putRow]
        show _ ≤ w1.heap.size + os.size
        omega
      · rw [hw6]
        show ((Sort.putRow (Value.int .i64) (Sort.ahead w1 nd) b5 0 sv.toArray).heap ++ os)[b]? = _
        rw [Array.getElem?_append_left (by rw [Sort.size_putRow]; show b < w1.heap.size; have := HB.out.size; omega)]
        exact putRow_otherT _ _ _ _ (by omega)
    have HO6 := Lib.hid o6
    have HB6 := Lib.hid (HB.out.trans hk6)
    clear o6 hk6 hw6 HCS HO5
    go_wp2
    go_ret
    exact ⟨_, rfl, by rw [HSv.out]; exact HO6.out, HB6.out⟩
end Go.Proofs.Ytfgpenekmokdiaa
namespace Go.Proofs.Ytfgpenekmokdiaa.Fl

/-- A walk of k edges between open vertices. -/
inductive Rn (g : GraphD) (s : List Bool) : Nat → Nat → Nat → Prop
  | zero {v : Nat} : v < g.length → atB s v = false → Rn g s 0 v v
  | succ {k u y v : Nat} : u < g.length → atB s u = false → EdgeG g u y → Rn g s k y v → Rn g s (k + 1) u v
theorem Rn.left {g : GraphD} {s : List Bool} {k u v : Nat} (h : Rn g s k u v) : u < g.length ∧ atB s u = false := by cases h <;> exact ⟨by assumption, by assumption⟩
theorem Rn.right {g : GraphD} {s : List Bool} {k u v : Nat} (h : Rn g s k u v) : v < g.length ∧ atB s v = false := by
  induction h with
  | zero h1 h2 => exact ⟨h1, h2⟩
  | succ _ _ _ _ ih => exact ih
theorem Rn.path {g : GraphD} {s : List Bool} {k u v : Nat} (h : Rn g s k u v) : PathG g s u v := by
  induction h with
  | zero h1 h2 => exact .refl h1 h2
  | succ h1 h2 h3 _ ih => exact .head h1 h2 h3 ih
theorem Rn.snoc {g : GraphD} {s : List Bool} {k u v y : Nat} (h : Rn g s k u v) (he : EdgeG g v y) (hy : y < g.length) (hs : atB s y = false) : Rn g s (k + 1) u y := by
  induction h with
  | zero h1 h2 => exact .succ h1 h2 he (.zero hy hs)
  | succ h1 h2 h3 _ ih => exact .succ h1 h2 h3 (ih he)
theorem rn_of_path {g : GraphD} {s : List Bool} {u v : Nat} (h : PathG g s u v) : ∃ k, Rn g s k u v := by
  induction h with
  | refl h1 h2 => exact ⟨0, .zero h1 h2⟩
  | step _ he hl hs ih =>
    obtain ⟨k, hk⟩ := ih
    exact ⟨k + 1, hk.snoc he hl hs⟩
abbrev dAt (out : List Int) (v : Nat) : Int := out.getD v (-1)
theorem dAt_set {out : List Int} {v u : Nat} {d : Int} (hv : v < out.length) : dAt (out.set v d) u = if u = v then d else dAt out u := by
  unfold dAt
  rw [List.getD_eq_getElem?_getD, List.getElem?_set, List.getD_eq_getElem?_getD]
  by_cases e : u = v
  · subst e; simp [hv]
  · rw [if_neg (fun h => e h.symm), if_neg e]
/-- What is marked stays as it is. -/
theorem distV_keep {g : GraphD} {s : List Bool} {d : Int} {out : List Int} {v u : Nat} (h : 0 ≤ dAt out u) : dAt (distV g s d out v) u = dAt out u := by
  unfold distV
  split
  · rfl
  · rename_i h1
    split
    · by_cases hv : v < out.length
      · rw [dAt_set hv]
        split
        · rename_i e
          subst e
          exfalso
          apply h1
          simp only [Bool.or_eq_true, decide_eq_true_eq]
          exact .inr h
        · rfl
      · rw [List.set_eq_of_length_le (by omega)]
    · rfl
theorem distR_keep {g : GraphD} {s : List Bool} {d : Int} {out : List Int} {u : Nat} (h : 0 ≤ dAt out u) : ∀ k, dAt (distR g s d out k) u = dAt out u
  | 0 => rfl
  | k + 1 => by rw [distR_succ, distV_keep (by rw [distR_keep h k]; exact h), distR_keep h k]
theorem distR_later {g : GraphD} {s : List Bool} {d : Int} {out : List Int} {u j : Nat} : ∀ k, j ≤ k → 0 ≤ dAt (distR g s d out j) u → 0 ≤ dAt (distR g s d out k) u
  | 0, hj, h => by
    have : j = 0 := by omega
    subst this
    exact h
  | k + 1, hj, h => by
    rcases Nat.eq_or_lt_of_le hj with rfl | hj
    · exact h
    · have := distR_later (g := g) (s := s) (d := d) (out := out) (u := u) k (by omega) h
      rw [distR_succ, distV_keep this]
      exact this
theorem distK_later {g : GraphD} {s : List Bool} {out : List Int} {u j : Nat} : ∀ k, j ≤ k → 0 ≤ dAt (distK g s out j) u → dAt (distK g s out k) u = dAt (distK g s out j) u
  | 0, hj, h => by
    have : j = 0 := by omega
    subst this
    rfl
  | k + 1, hj, h => by
    rcases Nat.eq_or_lt_of_le hj with rfl | hj
    · rfl
    · have := distK_later (g := g) (s := s) (out := out) (u := u) k (by omega) h
      rw [distK_succ, distR_keep (by rw [this]; exact h), this]
/-- Only open vertices are marked. -/
theorem distV_open {g : GraphD} {s : List Bool} {d : Int} {out : List Int} {v : Nat} (h : ∀ u, 0 ≤ dAt out u → atB s u = false) : ∀ u, 0 ≤ dAt (distV g s d out v) u → atB s u = false := by
  intro u hu
  by_cases h0 : 0 ≤ dAt out u
  · exact h u h0
  · unfold distV at hu
    split at hu
    · exact absurd hu h0
    · rename_i h1
      split at hu
      · by_cases hv : v < out.length
        · rw [dAt_set hv] at hu
          split at hu
          · rename_i e
            subst e
            simp only [Bool.or_eq_true, not_or] at h1
            simpa using h1.1
          · exact absurd hu h0
        · rw [List.set_eq_of_length_le (by omega)] at hu; exact absurd hu h0
      · exact absurd hu h0
theorem distR_open {g : GraphD} {s : List Bool} {d : Int} {out : List Int} (h : ∀ u, 0 ≤ dAt out u → atB s u = false) : ∀ k u, 0 ≤ dAt (distR g s d out k) u → atB s u = false
  | 0 => h
  | k + 1 => by rw [distR_succ]; exact distV_open (distR_open h k)
theorem distK_open {g : GraphD} {s : List Bool} {out : List Int} (h : ∀ u, 0 ≤ dAt out u → atB s u = false) : ∀ k u, 0 ≤ dAt (distK g s out k) u → atB s u = false
  | 0 => h
  | k + 1 => by rw [distK_succ]; exact distR_open (distK_open h k) _
/-- A mark is the length of a walk. -/
theorem dist_walk {g : GraphD} {s : List Bool} {goal : Nat} {d : Int} {out : List Int} (h : DistInv g goal d out) (ho : ∀ u, 0 ≤ dAt out u → atB s u = false) : ∀ (k u : Nat), u < g.length → dAt out u = k → Rn g s k u goal
  | 0, u, hu, e => by
    have := (h.goal u hu).1 e
    subst this
    exact .zero hu (ho u (by omega))
  | k + 1, u, hu, e => by
    obtain ⟨x, hx, x0, x1, x2⟩ := h.step u hu (by show 0 < dAt out u; omega)
    obtain ⟨y, rfl⟩ := Int.eq_ofNat_of_zero_le x0
    have e2 : dAt out y = k := by
      unfold atI at x2
      rw [Int.toNat_natCast] at x2
      show out.getD y (-1) = _
      rw [x2]
      show dAt out u - 1 = _
      omega
    exact .succ hu (ho u (by omega)) hx (dist_walk h ho k y (by omega) e2)
/-- A vertex with a neighbour at d - 1 is marked in round d. -/
theorem distV_set {g : GraphD} {s : List Bool} {d : Int} {out : List Int} {v : Nat} (hl : v < out.length) (hs : atB s v = false) {y : Nat} (he : EdgeG g v y) (hy : dAt out y = d - 1) (hd : 1 ≤ d) : 0 ≤ dAt (distV g s d out v) v := by
  by_cases h0 : 0 ≤ dAt out v
  · rw [distV_keep h0]; exact h0
  · unfold distV
    rw [hs, decide_eq_false h0]
    simp only [Bool.or_false, Bool.false_eq_true, if_false]
    rw [if_pos (List.any_eq_true.2 ⟨(y : Int), he, by unfold atI; rw [Int.toNat_natCast]; simpa using hy⟩), dAt_set hl, if_pos rfl]
    omega
theorem distR_set {g : GraphD} {s : List Bool} {d : Int} {out : List Int} {v y : Nat} (hl : out.length = g.length) (hv : v < g.length) (hs : atB s v = false) (he : EdgeG g v y) (hy : dAt out y = d - 1) (hd : 1 ≤ d) : 0 ≤ dAt (distR g s d out g.length) v := by
  have h1 : dAt (distR g s d out v) y = d - 1 := by rw [distR_keep (by omega) v]; exact hy
  have h2 := distV_set (by rw [distR_length]; omega) hs he h1 hd
  rw [← distR_succ] at h2
  exact distR_later _ (by omega) h2
/-- After d rounds, all walks of at most d edges are known. -/
theorem distK_all {g : GraphD} {s : List Bool} {goal : Nat} {out : List Int} (hg : validG g = true) (h0 : DistInv g goal 0 out) (ho : ∀ u, 0 ≤ dAt out u → atB s u = false) : ∀ (d k v : Nat), k ≤ d → Rn g s k v goal → 0 ≤ dAt (distK g s out d) v ∧ dAt (distK g s out d) v ≤ k
  | d, 0, v, _, h => by
    cases h with
    | zero hv hs =>
      have hz : dAt out goal = 0 := (h0.goal goal hv).2 rfl
      rw [distK_later (j := 0) d (Nat.zero_le _) (by rw [distK_zero]; omega), distK_zero, hz]
      exact ⟨Int.le_refl _, Int.le_refl _⟩
  | 0, k + 1, v, hk, _ => by omega
  | d + 1, k + 1, v, hk, h => by
    by_cases hkd : k + 1 ≤ d
    · have ih := distK_all hg h0 ho d (k + 1) v hkd h
      rw [distK_later (j := d) (d + 1) (by omega) ih.1]
      exact ih
    · have hkd : k = d := by omega
      subst hkd
      have hinv := distK_inv (s := s) hg h0 (k + 1)
      have hlow := hinv.low v
      refine ⟨?_, by have := hlow.2; show dAt _ _ ≤ _; omega⟩
      cases h with
      | succ hv hs he hr =>
        rename_i y
        have ih := distK_all hg h0 ho k k y (Nat.le_refl _) hr
        by_cases hlt : dAt (distK g s out k) y < k
        · obtain ⟨j, hj⟩ := Int.eq_ofNat_of_zero_le ih.1
          have hinvk := distK_inv (s := s) hg h0 k
          have hw := dist_walk hinvk (distK_open ho k) j y hr.left.1 hj
          have ih2 := distK_all hg h0 ho k (j + 1) v (by omega) (.succ hv hs he hw)
          rw [distK_later (j := k) (k + 1) (by omega) ih2.1]
          exact ih2.1
        · rw [distK_succ]
          exact distR_set (by rw [distK_length, h0.len]) hv hs he (by have := ih.2; omega) (by omega)
/-- A list of different numbers below m has at most m elements. -/
theorem nodup_len : ∀ (m : Nat) (l : List Nat), l.Nodup → (∀ z ∈ l, z < m) → l.length ≤ m
  | 0, l, _, hl => by
    rcases l with _ | ⟨z, l⟩
    · simp
    · have := hl z (by simp); omega
  | m + 1, l, hn, hl => by
    have h1 := nodup_len m (l.filter (fun z => decide (z ≠ m))) (hn.filter _) (fun z hz => by
      obtain ⟨h2, h3⟩ := List.mem_filter.1 hz
      have := hl z h2
      simp at h3
      omega)
    have h2 := one_out m l hn
    omega
where
  one_out (m : Nat) : ∀ (l : List Nat), l.Nodup → l.length ≤ (l.filter (fun z => decide (z ≠ m))).length + 1
  | [], _ => by simp
  | z :: l, hn => by
    have hn' := List.nodup_cons.1 hn
    by_cases hz : z = m
    · have : l.filter (fun z => decide (z ≠ m)) = l := List.filter_eq_self.2 fun y hy => by
        simp
        intro e
        exact hn'.1 (by rw [hz, ← e]; exact hy)
      rw [List.filter_cons_of_neg (by simp [hz]), this, List.length_cons]
      omega
    · rw [List.filter_cons_of_pos (by simp [hz]), List.length_cons, List.length_cons]
      have := one_out m l hn'.2
      omega
/-- Vertices at each smaller distance. -/
theorem dist_layers {g : GraphD} {goal : Nat} {d : Int} {out : List Int} (h : DistInv g goal d out) : ∀ (k u : Nat), u < g.length → dAt out u = k → ∃ l : List Nat, l.length = k + 1 ∧ l.Nodup ∧ ∀ z ∈ l, z < g.length ∧ 0 ≤ dAt out z ∧ dAt out z ≤ k
  | 0, u, hu, e => ⟨[u], rfl, by simp, fun z hz => by simp at hz; subst hz; exact ⟨hu, by omega, by omega⟩⟩
  | k + 1, u, hu, e => by
    obtain ⟨x, hx, x0, x1, x2⟩ := h.step u hu (by show 0 < dAt out u; omega)
    obtain ⟨y, rfl⟩ := Int.eq_ofNat_of_zero_le x0
    have e2 : dAt out y = k := by
      unfold atI at x2
      rw [Int.toNat_natCast] at x2
      show out.getD y (-1) = _
      rw [x2]
      show dAt out u - 1 = _
      omega
    obtain ⟨l, h1, h2, h3⟩ := dist_layers h k y (by omega) e2
    refine ⟨u :: l, by simp [h1], List.nodup_cons.2 ⟨fun hm => ?_, h2⟩, fun z hz => ?_⟩
    · have := (h3 u hm).2.2
      omega
    · rcases List.mem_cons.1 hz with rfl | hz
      · exact ⟨hu, by omega, by omega⟩
      · have := h3 z hz
        exact ⟨this.1, this.2.1, by omega⟩
theorem dist_small {g : GraphD} {goal : Nat} {d : Int} {out : List Int} (h : DistInv g goal d out) {k u : Nat} (hu : u < g.length) (e : dAt out u = k) : k + 1 ≤ g.length := by
  obtain ⟨l, h1, h2, h3⟩ := dist_layers h k u hu e
  rw [← h1]
  exact nodup_len _ l h2 fun z hz => (h3 z hz).1
theorem start_open {g : GraphD} {s : List Bool} {goal : Nat} (hv : goal < g.length) (hs : atB s goal = false) : ∀ u, 0 ≤ dAt ((List.replicate g.length (-1)).set goal 0) u → atB s u = false := fun u hu => by
  rw [dAt_set (by simpa using hv)] at hu
  split at hu
  · rename_i e; subst e; exact hs
  · exfalso
    unfold dAt at hu
    rw [List.getD_eq_getElem?_getD, List.getElem?_replicate] at hu
    split at hu <;> simp at hu
/-- What Dist finds is the length of a shortest walk. -/
theorem dist_le {g : GraphD} {s : List Bool} {goal k v : Nat} (hg : validG g = true) (h : Rn g s k v goal) : 0 ≤ dAt (distF g s goal) v ∧ dAt (distF g s goal) v ≤ k := by
  have hgo := h.right
  unfold distF
  rw [hgo.2]
  simp only [Bool.false_eq_true, if_false]
  have h0 := dist_start (g := g) hgo.1
  have ho := start_open hgo.1 hgo.2
  by_cases hk : k ≤ g.length - 1
  · exact distK_all hg h0 ho _ k v hk h
  · have h1 := distK_all hg h0 ho k k v (Nat.le_refl _) h
    obtain ⟨j, hj⟩ := Int.eq_ofNat_of_zero_le h1.1
    have hinv := distK_inv (s := s) hg h0 k
    have h2 := dist_small hinv h.left.1 hj
    have h3 := dist_walk hinv (distK_open ho k) j v h.left.1 hj
    have h4 := distK_all hg h0 ho (g.length - 1) j v (by omega) h3
    refine ⟨h4.1, ?_⟩
    have := h4.2
    omega
theorem dist_is {g : GraphD} {s : List Bool} {goal k v : Nat} (hg : validG g = true) (hgo : goal < g.length) (hv : v < g.length) (h : dAt (distF g s goal) v = k) : Rn g s k v goal := by
  rcases hs : atB s goal with _ | _
  · have h0 := dist_start (g := g) hgo
    have ho := start_open hgo hs
    unfold distF at h
    rw [hs] at h
    simp only [Bool.false_eq_true, if_false] at h
    exact dist_walk (distK_inv (s := s) hg h0 _) (distK_open ho _) k v hv h
  · exfalso
    rw [distF_shut hs] at h
    unfold dAt at h
    rw [List.getD_eq_getElem?_getD, List.getElem?_replicate] at h
    split at h <;> simp at h
end Go.Proofs.Ytfgpenekmokdiaa.Fl
