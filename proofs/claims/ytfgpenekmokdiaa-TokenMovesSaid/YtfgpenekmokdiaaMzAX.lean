/- Joined texts. -/
import Derived.Test.YtfgpenekmokdiaaMzAQ
import Derived.Test.YtfgpenekmokdiaaMzAW
import Derived.Test.YtfgpenekmokdiaaMzAH
import Derived.Test.YtfgpenekmokdiaaMzAD
import Derived.Test.YtfgpenekmokdiaaMzAE
import Derived.Test.YtfgpenekmokdiaaShelf
import Derived.Lib.AppendZeros
import Derived.BigQuiet
import Derived.Lib.SliceRun
import Derived.Test.YtfgpenekmokdiaaMzAI
namespace Go.Proofs.Ytfgpenekmokdiaa
open Go Go.RowKit Fl

theorem run_append_zero {P : Program} (w : World) (t ty e : TypeId) (i : TypeInfo) (ht : P.underlying t = some (.slice e)) (hi : P.info? e = some i) (A X : Option Addr) (n c d : Nat) (hnc : n ≤ c) :
    (Builtin.append_ #[t, t] ty #[.slice A n c, .slice X 0 d]).run P w = .ok (.slice A n c) w := by
  cases A <;> cases X <;> simp [Builtin.append_, run_underlying ht, sizeOf, typeInfo, hi, Builtin.lenOf, hnc, Builtin.firstCells, loadCells, loadCellsFrom, storeCells, Result.andThen]
theorem own_le {w : World} {base n cap : Nat} {e : TypeId} {A : Option Addr} {xs : List Value} (h : w.ownsRow base e 1 (.slice A n cap) n xs) (hn : 0 < n) : n ≤ cap := by
  obtain ⟨_, _, hv, _, h2⟩ := own_at h hn
  injection hv with _ _ h3
  rw [h3]; exact h2
/-- Nothing is appended, as one step of a drawn region. -/
theorem step_append_zero {P : Program} {ops : Array Oper} {o : Oper} {a : Act} {w : World} {K : Act → World → Prop} {Q : Exit → Act → World → Prop} {E : Prop}
    (hg : o.guard = none) (s x : Operand) (t : TypeId) (hop : o.op = Op.call { callee := Callee.builtin Builtin.append, args := #[s, x], argTypes := #[t, t] })
    (e : TypeId) (i : TypeInfo) (h1 : P.underlying t = some (.slice e)) (h2 : P.info? e = some i) (A X : Option Addr) (n c m d : Nat) (hm : m = 0) (hnc : n ≤ c) (hs : a.eval s = .slice A n c) (hx : a.eval x = .slice X m d)
    (hK : K (a.put o.dst (.slice A n c)) w) : if Region.wanted o (yielded ops a.tmps) = true then Oper.wp P o a w K Q else E := by
  have hw : Region.wanted o (yielded ops a.tmps) = true := by simp [Region.wanted, hg]
  rw [if_pos hw]
  subst hm
  have hrun := run_append_zero (P := P) w t o.type e i h1 h2 A X n c d hnc
  unfold Oper.wp
  simp [execOp, hop, resolve, invoke, builtin, hs, hx, hrun, Result.andThen]
  exact hK
def lenS : Value → Nat
  | .slice _ n _ => n
  | _ => 0
/-- What Ring of the reference returns. -/
def RingRes (p : Bool) (R : Option (List Int)) (B : Nat) (e : Ending) (w' : World) : Prop :=
  (p = false ∧ e = .returned (.tuple #[.slice none 0 0, .int .i64 20])) ∨ (p = true ∧ R = none ∧ e = .returned (.tuple #[.slice none 0 0, .int .i64 25])) ∨
  (p = true ∧ ∃ r u, R = some r ∧ e = .returned (.tuple #[u, .int .i64 0]) ∧ w'.ownsRow B 3 1 u r.length (r.map Iv))
theorem ring_bad {R : Option (List Int)} {B : Nat} {w' : World} : RingRes false R B (.returned (.tuple #[.slice none 0 0, .int .i64 20])) w' := .inl ⟨rfl, rfl⟩
theorem ring_none {R : Option (List Int)} {B : Nat} {w' : World} (h : R = none) : RingRes true R B (.returned (.tuple #[.slice none 0 0, .int .i64 25])) w' := .inr (.inl ⟨rfl, h, rfl⟩)
theorem ring_some {R : Option (List Int)} {B : Nat} {w' : World} {r : List Int} {u : Value} (h : R = some r) (ho : w'.ownsRow B 3 1 u r.length (r.map Iv)) : RingRes true R B (.returned (.tuple #[u, .int .i64 0])) w' := .inr (.inr ⟨rfl, r, u, h, rfl, ho⟩)
set_option maxRecDepth 100000 in
set_option maxHeartbeats 4000000 in
theorem refRing0_c (A A1 A2 : Option Addr) (c c1 c2 : Nat) (g : GraphD) (ts ws : List Int) (w : World) (hh : RowsAt w A g) (h1 : Holds w A1 (ts.map Iv)) (h2 : Holds w A2 (ws.map Iv)) (hcap : ts.length ≤ c1) (hl : g.length ≤ 1000000000000000000) (hr : ∀ r ∈ g, r.length ≤ 1000000000000000000) (R : Option (List Int)) (hp : posB g ts ws = false) :
    Calls Try.prog 16 #[.slice A g.length c, .slice A1 ts.length c1, .slice A2 ws.length c2] w fun e w' => Below w.heap.size w w' ∧ RingRes false R w.heap.size e w' := by
  have CV := Lib.hid (pos_c A A1 A2 c c1 c2 g ts ws w hh h1 h2 hcap hl hr)
  rw [hp] at CV
  clear hh h1 h2 hr hp
  go_enter Try.func16, Try.ntmps16
  go_wp2_with fail
  refine CV.out.mono ?_
  rintro e w1 ⟨rfl, n, rfl⟩
  have HB := Lib.hid (below_drewN (Below.refl w.heap.size w) n)
  go_wp2
  go_ret2
  exact ⟨HB.out, ring_bad⟩
set_option maxRecDepth 100000 in
set_option maxHeartbeats 4000000 in
theorem refRing1_c (A A1 A2 : Option Addr) (c c1 c2 : Nat) (g : GraphD) (ws : List Int) (w : World) (hh : RowsAt w A g) (h1 : Holds w A1 (([] : List Int).map Iv)) (h2 : Holds w A2 (ws.map Iv)) (hl : g.length ≤ 1000000000000000000) (hr : ∀ r ∈ g, r.length ≤ 1000000000000000000) (R : Option (List Int)) (hR : R = none) (hp : posB g [] ws = true) :
    Calls Try.prog 16 #[.slice A g.length c, .slice A1 0 c1, .slice A2 ws.length c2] w fun e w' => Below w.heap.size w w' ∧ RingRes true R w.heap.size e w' := by
  have CV := Lib.hid (pos_c A A1 A2 c c1 c2 g [] ws w hh h1 h2 (Nat.zero_le _) hl hr)
  rw [hp] at CV
  have CV : Hid (Calls Try.prog 18 #[.slice A g.length c, .slice A1 0 c1, .slice A2 ws.length c2] w fun e w' => e = .returned (.bool true) ∧ ∃ n, w' = w.drewN n) := Lib.hid CV.out
  clear hh h1 h2 hr hp
  go_enter Try.func16, Try.ntmps16
  go_wp2_with fail
  refine CV.out.mono ?_
  rintro e w1 ⟨rfl, n, rfl⟩
  have HB := Lib.hid (below_drewN (Below.refl w.heap.size w) n)
  go_wp2
  go_ret2
  exact ⟨HB.out, ring_none hR⟩
end Go.Proofs.Ytfgpenekmokdiaa
namespace Go.Proofs.Ytfgpenekmokdiaa
open Go Go.RowKit Fl

set_option maxRecDepth 100000 in
set_option maxHeartbeats 4000000 in
theorem grow_c (n : Nat) (hn : n ≤ 100000) (w : World) : Calls Try.prog 67 #[.slice none 0 0, .int .i64 n] w fun e w' => ∃ u, e = .returned u ∧ w'.ownsRow w.heap.size 3 1 u 0 [] ∧ Below w.heap.size w w' := by
  obtain ⟨i0, hi, hz0, hz1, hz2⟩ := info_parts Try.infoIntG
  rcases Nat.eq_zero_or_pos n with rfl | h0
  · have HB := Lib.hid (Below.refl w.heap.size w)
    go_enter Try.func67, Try.ntmps67
    go_wp2
    go_ret
    exact ⟨_, rfl, World.ownsRow_nil _ _ _ _, HB.out⟩
  · have hrz : ∀ ty, (Builtin.append_ #[23, 3] ty #[.slice none 0 0, .int .i64 (n : Int)]).run Try.prog w = _ := fun ty => Lib.run_append_nil_zeros (P := Try.prog) w 23 3 ty 3 i0 (.int .i64 0) .i64 .i64 Try.underlying23 Try.underlying3 hi hz0 n h0 (by rw [hz1]; decide) (by omega) (by rw [hz2]; omega)
    have hcap := grownCap_ge w n 0 3
    have hmax := grownCap_le_maxLen w n 0 3 (by unfold maxLen; omega)
    have HM := Lib.hid (World.ownsRow_made (e := 3) (size := 1) (base := w.heap.size) w.drew (Builtin.zeroCells (Value.int .i64 0).cells n ++ Builtin.zeroCells (Value.int .i64 0).cells (grownCap w n 0 3 - n)) (grownCap w n 0 3) (Nat.le_refl _) hmax (by
      have hz : ∀ k, (Builtin.zeroCells (Value.int .i64 0).cells k).size = k := fun k => by simp [Builtin.zeroCells, Value.cells]
      rw [Array.size_append, hz, hz]; omega))
    have HB := Lib.hid ((Below.refl w.heap.size w).drew.alloc (Nat.le_refl _) (.cells (Builtin.zeroCells (Value.int .i64 0).cells n ++ Builtin.zeroCells (Value.int .i64 0).cells (grownCap w n 0 3 - n)) 3))
    obtain ⟨G, hG⟩ : ∃ G, G = grownCap w n 0 3 := ⟨_, rfl⟩
    rw [← hG] at hrz HM HB hcap hmax
    have hG63 : G ≤ 9223372036854775807 := by unfold maxLen at hmax; omega
    clear hG hi hz0 hz1 hz2 hmax
    go_enter Try.func67, Try.ntmps67
    go_wp2_with (at_builtin; refine Lib.wpList_append_run _ rfl _ _ _ _ rfl _ _ rfl rfl _ _ (hrz _) ?_)
    all_goals
      go_ret
      exact ⟨_, rfl, HM.out, HB.out⟩
/-- The first k rows, one behind the other. -/
def catK (g : GraphD) (k : Nat) : List Int := (g.take k).flatten
theorem catK_zero (g : GraphD) : catK g 0 = [] := by simp [catK]
theorem catK_end (g : GraphD) : catK g g.length = g.flatten := by unfold catK; rw [List.take_length]
theorem catK_succ {g : GraphD} {k : Nat} (h : k < g.length) : catK g (k + 1) = catK g k ++ g[k] := by
  unfold catK
  rw [List.take_succ_eq_append_getElem h, List.flatten_append]; simp
theorem catK_len {g : GraphD} (hr : ∀ r ∈ g, r.length ≤ 100) : ∀ k, k ≤ g.length → (catK g k).length ≤ 100 * k
  | 0, _ => by simp [catK]
  | k + 1, h => by
    rw [catK_succ h, List.length_append]
    have := catK_len hr k (by omega)
    have := hr _ (List.getElem_mem (show k < g.length from h))
    omega
set_option maxRecDepth 100000 in
set_option maxHeartbeats 4000000 in
theorem concat_c (A : Option Addr) (c : Nat) (g : GraphD) (w : World) (hh : RowsAt w A g) (hl : g.length ≤ 100) (hr : ∀ r ∈ g, r.length ≤ 100) :
    Calls Try.prog 49 #[.slice A g.length c] w fun e w' => ∃ u, e = .returned u ∧ w'.ownsRow w.heap.size 3 1 u g.flatten.length (g.flatten.map Iv) ∧ Below w.heap.size w w' := by
  have HG := Lib.hid hh
  have HR := Lib.hid hr
  have HL := Lib.hid (fun k hk => catK_len hr k hk)
  have HF := Lib.hid (fun k (hk : k < g.length) => catK_succ hk)
  have HE := Lib.hid (catK_end g)
  obtain ⟨i0, hi, hz0, hz1, hz2⟩ := info_parts Try.infoIntG
  clear hh hr
  go_enter Try.func49, Try.ntmps49
  go_wp2
  go_loop [3, 11] (fun s i => ∃ k : Nat, i = .int .i64 k ∧ k ≤ g.length ∧ ∃ n : Nat, s = .int .i64 n ∧ Hid (n = (catK g k).length)) (fun _ i => g.length - (intOf i).toNat)
  case atStart => exact ⟨0, rfl, Nat.zero_le _, 0, rfl, Lib.hid (by rw [catK_zero]; rfl)⟩
  case round =>
    obtain ⟨k, rfl, hk, n, rfl, HN⟩ := hrel
    have hn := HL.out k hk
    rw [← HN.out] at hn
    by_cases hlt : k < g.length
    · obtain ⟨b, o, A1, c1, rfl, e1, _⟩ := HG.out.one hlt
      have hrl := HR.out _ (List.getElem_mem hlt)
      have HN2 : Hid (n + g[k].length = (catK g (k + 1)).length) := Lib.hid (by rw [HF.out k hlt, List.length_append, HN.out])
      clear HN
      generalize g[k].length = m at *
      go_wp2
      go_round
      case rel => exact ⟨k + 1, by go_num, by omega, n + m, by go_num, HN2⟩
      case measure => simp [intOf]; omega
    · obtain rfl : k = g.length := by omega
      have CG := Lib.hid (grow_c n (by omega) w)
      go_wp2_with fail
      refine CG.out.mono ?_
      rintro e w1 ⟨u, rfl, own1, hb1⟩
      have HO : Hid (w1.ownsRow w.heap.size 3 1 u (catK g 0).length ((catK g 0).map Iv)) := Lib.hid (by rw [catK_zero]; exact own1)
      have HB := Lib.hid hb1
      clear own1 hb1 CG HN
      go_wp2
      go_loopw [6, 27] (fun v i wr => ∃ k : Nat, i = .int .i64 k ∧ k ≤ g.length ∧ Hid (wr.ownsRow w.heap.size 3 1 v (catK g k).length ((catK g k).map Iv)) ∧ Hid (Below w.heap.size w wr)) (fun _ i _ => g.length - (intOf i).toNat)
      case atStart => exact ⟨0, rfl, Nat.zero_le _, HO, HB⟩
      case round =>
        clear HO HB
        obtain ⟨k, rfl, hk, HO, HB⟩ := hrel
        by_cases hlt : k < g.length
        · obtain ⟨b, o, A1, c1, rfl, e1, h1⟩ := (HG.out.keep HB.out).one hlt
          have hrl := HR.out _ (List.getElem_mem hlt)
          have hfl := HL.out k hk
          have HF1 := Lib.hid (HF.out k hlt)
          have H1 := Lib.hid h1
          obtain ⟨A8, c8, rfl, hc8, _⟩ := own_cap HO.out
          have hb := own_base HO.out
          have hsz := HB.out.size
          clear h1
          generalize g[k] = r at *
          by_cases hr0 : r = []
          · have HO2 : Hid (wr.ownsRow w.heap.size 3 1 (.slice A8 (catK g k).length c8) (catK g (k + 1)).length ((catK g (k + 1)).map Iv)) := Lib.hid (by rw [HF1.out, hr0, List.append_nil]; exact HO.out)
            subst hr0
            clear HO HF1
            go_wp2_with (at_builtin; refine Lib.wpList_append_run _ rfl _ _ _ _ rfl _ _ rfl rfl _ _ (run_append_zero _ _ _ _ i0 Try.underlying23 hi _ _ _ _ _ hc8) ?_)
            go_roundw
            case rel => exact ⟨k + 1, by go_num, by omega, HO2, HB⟩
            case measure => simp [intOf]; omega
          · have hrp : 0 < r.length := List.length_pos_iff.2 hr0
            obtain ⟨b1, o1, rfl, _⟩ := H1.out.iv hrp
            have HC : Hid (∀ j u, (r.map Iv)[j]? = some u → wr.cell? ((⟨b1, o1, none⟩ : Addr).add j) = some u) := Lib.hid (fun j u hu => by
              have hj : j < r.length := by have := (List.getElem?_eq_some_iff.1 hu).1; simpa using this
              obtain ⟨b', o', hA, he⟩ := H1.out.iv hj
              injection hA with hA
              injection hA with q1 q2
              subst q1 q2
              have hadd : (⟨b1, o1, none⟩ : Addr).add j = ⟨b1, o1 + j, none⟩ := by simp [Addr.add]
              rw [hadd, he]
              simpa [hj] using hu)
            clear hr0
            go_wp2_with (at_builtin; refine wpList_append_own _ rfl _ _ 23 rfl w.heap.size 3 i0 (.int .i64 0) 1 8 Try.underlying23 hi hz0 hz1 hz2 rfl (by decide) _ _ _ rfl HO.out ⟨b1, o1, none⟩ r.length c1 (r.map Iv) rfl ?qc1 ?qc2 ?qc3 ?qc4 ?qc5 ?qc6 ?_)
            case qc1 => simp
            case qc2 => exact HC.out
            case qc3 => intro u hu; obtain ⟨x, _, rfl⟩ := List.mem_map.1 hu; rfl
            case qc4 => unfold maxLen; omega
            case qc5 => omega
            case qc6 => omega
            intro v' w2 hown hgrow hnil
            have HO2 : Hid (w2.ownsRow w.heap.size 3 1 v' (catK g (k + 1)).length ((catK g (k + 1)).map Iv)) := Lib.hid (by rw [HF1.out, List.length_append, List.map_append]; exact hown)
            have HB2 := Lib.hid (HB.out.grown hgrow hsz (fun k hk => hb k hk))
            clear hown hgrow hnil HO HB HF1 hb
            go_wp2
            go_roundw
            case rel => exact ⟨k + 1, by go_num, by omega, HO2, HB2⟩
            case measure => simp [intOf]; omega
        · obtain rfl : k = g.length := by omega
          have HO2 : Hid (wr.ownsRow w.heap.size 3 1 u6 g.flatten.length (g.flatten.map Iv)) := Lib.hid (by have h := HO.out; rwa [HE.out] at h)
          clear HO
          go_wp2
          go_ret
          exact ⟨_, rfl, HO2.out, HB.out⟩
set_option maxRecDepth 100000 in
set_option maxHeartbeats 4000000 in
/-- The place of the first one that is z. -/
theorem indexAt_c (A : Option Addr) (c p : Nat) (r : List Int) (z : Int) (w : World) (hr : Holds w A (r.map Iv)) (hl : r.length ≤ 1000) (hp : p < r.length) (he : r[p] = z) (hb : ∀ j (h : j < r.length), j < p → r[j] ≠ z) :
    Calls Try.prog 61 #[.slice A r.length c, .int .i64 z] w fun e w' => e = .returned (.int .i64 p) ∧ w' = w := by
  have HR := Lib.hid hr
  have HE := Lib.hid he
  have HB := Lib.hid hb
  clear hr he hb
  go_enter Try.func61, Try.ntmps61
  go_wp2
  go_loop [8] (fun i => ∃ j : Nat, i = .int .i64 j ∧ j ≤ p) (fun i => r.length - (intOf i).toNat)
  case atStart => exact ⟨0, rfl, Nat.zero_le _⟩
  case round =>
    obtain ⟨j, rfl, hj⟩ := hrel
    have hjt : j < r.length := by omega
    obtain ⟨b, o, rfl, e1⟩ := HR.out.iv hjt
    rcases Nat.lt_or_ge j p with h1 | h1
    · have hne := HB.out j hjt h1
      have h1 : (z == r[j]) = false := by rw [beq_eq_false_iff_ne]; exact fun e => hne e.symm
      have h2 : ¬ z = r[j] := fun e => hne e.symm
      clear hne
      generalize r[j] = y at *
      go_wp2
      go_round
      case rel => exact ⟨j + 1, by go_num, by omega⟩
      case measure => simp [intOf]; omega
    · obtain rfl : j = p := by omega
      rw [HE.out] at e1
      go_wp2
      go_ret
      exact ⟨rfl, rfl⟩
theorem holds_behind {w : World} {b o : Nat} {xs : List Int} (h : Holds w (some ⟨b, o, none⟩) (xs.map Iv)) (m : Nat) : Holds w (some ⟨b, o + m, none⟩) ((xs.drop m).map Iv) := by
  rcases h with h | ⟨b', o', hA, hb, hc⟩
  · left
    have : xs = [] := by simpa using h
    subst this; simp
  · right
    injection hA with hA
    injection hA with q1 q2
    subst q1 q2
    refine ⟨b, o + m, rfl, hb, fun j hj => ?_⟩
    have hj' : m + j < (xs.map Iv).length := by simp at hj ⊢; omega
    rw [Nat.add_assoc, hc (m + j) hj']
    simp
theorem holds_ahead {w : World} {A : Option Addr} {xs : List Int} (h : Holds w A (xs.map Iv)) (m : Nat) : Holds w A ((xs.take m).map Iv) := by
  rw [List.map_take]
  exact holds_front h m
theorem rows2_at {W : World} {P c1 c2 : Nat} {A1 A2 : Option Addr} {r1 r2 : List Int} {n1 n2 : Nat} {e : TypeId} (hP : W.heap[P]? = some (.cells #[.slice A1 n1 c1, .slice A2 n2 c2] e (0, 0))) (e1 : n1 = r1.length) (e2 : n2 = r2.length) (h1 : Holds W A1 (r1.map Iv)) (h2 : Holds W A2 (r2.map Iv)) : RowsAt W (some ⟨P, 0, none⟩) [r1, r2] := by
  subst e1 e2
  refine .inr ⟨P, 0, rfl, block_lt hP, fun k hk => ?_⟩
  have hk2 : k < 2 := hk
  match k, hk2 with
  | 0, _ => exact ⟨_, c1, by rw [cell_of_row W _ _ _ e _ hP]; rfl, h1⟩
  | 1, _ => exact ⟨_, c2, by rw [cell_of_row W _ _ _ e _ hP]; rfl, h2⟩
/-- Two lists, one behind the other, in whatever world they lie. -/
theorem concat2_c {w W : World} {P c1 c2 n1 n2 : Nat} {A1 A2 : Option Addr} {r1 r2 : List Int} {e : TypeId} (hP : W.heap[P]? = some (.cells #[.slice A1 n1 c1, .slice A2 n2 c2] e (0, 0))) (hb : Below w.heap.size w W) (e1 : n1 = r1.length) (e2 : n2 = r2.length) (h1 : Holds w A1 (r1.map Iv)) (h2 : Holds w A2 (r2.map Iv)) (l1 : n1 ≤ 100) (l2 : n2 ≤ 100) :
    Calls Try.prog 49 #[.slice (some ⟨P, 0, none⟩) 2 2] W fun e w' => ∃ u, e = .returned u ∧ w'.ownsRow w.heap.size 3 1 u (n1 + n2) ((r1 ++ r2).map Iv) ∧ Below w.heap.size w w' := by
  have h := concat_c (some ⟨P, 0, none⟩) 2 [r1, r2] W (rows2_at hP e1 e2 (h1.keep hb) (h2.keep hb)) (by simp) (by simp; omega)
  refine h.mono ?_
  rintro e w' ⟨u, rfl, ho, hb2⟩
  refine ⟨u, rfl, ?_, hb.trans (hb2.mono hb.size)⟩
  have h3 := ownsRow_base ho hb.size
  have e3 : [r1, r2].flatten = r1 ++ r2 := by simp
  rw [e3] at h3
  rw [e1, e2, ← List.length_append]
  exact h3
set_option maxRecDepth 100000 in
set_option maxHeartbeats 4000000 in
/-- The list from its element first on, turned. -/
theorem beginWith_c (A : Option Addr) (c p : Nat) (l : List Int) (z : Int) (w : World) (hr : Holds w A (l.map Iv)) (hc : l.length ≤ c) (hl : l.length ≤ 100) (hp : p < l.length) (he : l[p] = z) (hb : ∀ j (h : j < l.length), j < p → l[j] ≠ z) :
    Calls Try.prog 38 #[.slice A l.length c, .int .i64 z] w fun e w' => ∃ u, e = .returned u ∧ w'.ownsRow w.heap.size 3 1 u l.length ((l.drop p ++ l.take p).map Iv) ∧ Below w.heap.size w w' := by
  have CI := Lib.hid (indexAt_c A c p l z w hr (by omega) hp he hb)
  obtain ⟨b, o, rfl, _⟩ := hr.iv hp
  have hcp : ¬ c = p := by omega
  have hlt : ¬ c < p := by omega
  have CC : Hid (∀ W : World, W.heap[w.heap.size]? = some (.cells #[.slice (some ⟨b, o + p, none⟩) (l.length - p) (c - p), .slice (some ⟨b, o, none⟩) p c] 23 (0, 0)) → Below w.heap.size w W → Calls Try.prog 49 #[.slice (some ⟨w.heap.size, 0, none⟩) 2 2] W fun e w' => ∃ u, e = .returned u ∧ w'.ownsRow w.heap.size 3 1 u l.length ((l.drop p ++ l.take p).map Iv) ∧ Below w.heap.size w w') := Lib.hid (fun W hP hW => by
    have h := concat2_c hP hW (r1 := l.drop p) (r2 := l.take p) (by simp) (by simp; omega) (holds_behind hr p) (holds_ahead hr p) (by omega) (by omega)
    rwa [show l.length - p + p = l.length by omega] at h)
  have HA : Hid (∀ o : Obj, Below w.heap.size w ((w.alloc o).drew) ∧ Below w.heap.size w (w.drew.alloc o) ∧ Below w.heap.size w (w.alloc o)) := Lib.hid (fun o => ⟨((Below.refl _ w).alloc (Nat.le_refl _) o).drew, (Below.refl _ w).drew.alloc (Nat.le_refl _) o, (Below.refl _ w).alloc (Nat.le_refl _) o⟩)
  clear hr he hb
  go_enter Try.func38, Try.ntmps38
  go_wp2_with fail
  refine CI.out.mono ?_
  rintro e w1 ⟨rfl, rfl⟩
  clear CI
  go_upto_region 2 with fail
  go_region_with (go_at_call 49; refine (CC.out _ (by first | exact heap_alloc_new _ _) (by first | exact (HA.out _).1 | exact (HA.out _).2.1 | exact (HA.out _).2.2)).mono ?_; rintro e w2 ⟨u, rfl, hu, hb2⟩)
  all_goals
    go_wp2
    go_ret
    exact ⟨_, rfl, hu, hb2⟩
end Go.Proofs.Ytfgpenekmokdiaa
namespace Go.Proofs.Ytfgpenekmokdiaa
open Go Go.RowKit Fl

set_option maxRecDepth 100000 in
set_option maxHeartbeats 4000000 in
/-- The test of IndexFunc. -/
theorem near_c (G H : Nat) (M : List Int) (f : Int) (z : Nat) (w : World) (hz : ArrD w G 57 (padZ M)) (hH : w.heap[H]? = some (.cells #[.int .i64 f] 3 (0, 0))) (hl : z < M.length) (h24 : M.length ≤ 24) :
    Calls Try.prog 74 #[.int .i64 z, .pointer (some ⟨G, 0, none⟩), .pointer (some ⟨H, 0, none⟩)] w fun e w' => e = .returned (.bool (decide (atZ M z = f))) ∧ w' = w.drew := by
  obtain ⟨e1, _⟩ := hz.cell (padZ_at hl)
  have e2 : w.cell? ⟨H, 0, none⟩ = some (.int .i64 f) := cell_of_one hH
  have hz24 : z < 24 := by omega
  clear hz hH
  generalize atZ M z = s at *
  go_enter Try.func74, Try.ntmps74
  go_wp2
  go_region
  all_goals (try go_wp2)
  all_goals go_ret
  all_goals exact ⟨gr_bool (by rw [Bool.eq_iff_iff]; simp), rfl⟩
set_option maxRecDepth 100000 in
set_option maxHeartbeats 4000000 in
theorem idx_c (A : Option Addr) (c G H : Nat) (r M : List Int) (f : Int) (j : Nat) (w : World) (hr : Holds w A (r.map Iv)) (hz : ArrD w G 57 (padZ M)) (hH : w.heap[H]? = some (.cells #[.int .i64 f] 3 (0, 0))) (h24 : M.length ≤ 24) (hr24 : r.length ≤ 24) (hx : ∀ x ∈ r, 0 ≤ x ∧ x < M.length) (hj : j < r.length) (hjf : atZ M r[j].toNat = f) (hbef : ∀ i (h : i < r.length), i < j → atZ M r[i].toNat ≠ f) :
    Calls Try.prog 62 #[.slice A r.length c, .func (.func 74) #[] #[.pointer (some ⟨G, 0, none⟩), .pointer (some ⟨H, 0, none⟩)]] w fun e w' => e = .returned (.int .i64 j) ∧ Below w.heap.size w w' := by
  have HR := Lib.hid hr
  have HX := Lib.hid hx
  have HJ := Lib.hid hjf
  have HBf := Lib.hid hbef
  have HC := Lib.hid (fun (wr : World) (hb : Below w.heap.size w wr) (z : Nat) (hl : z < M.length) => near_c G H M f z wr (hz.keep hb hz.lt) ((hb.block H (block_lt hH)).trans hH) hl h24)
  clear hr hx hjf hbef hz hH
  go_enter Try.func62, Try.ntmps62
  go_wp2
  go_loopw [8] (fun iv wr => ∃ (i : Nat), iv = .int .i64 i ∧ i ≤ j ∧ Hid (Below w.heap.size w wr)) (fun iv _ => r.length - (intOf iv).toNat)
  case atStart => exact ⟨0, rfl, Nat.zero_le _, Lib.hid (Below.refl _ _)⟩
  case round =>
    obtain ⟨i, rfl, hij, HB⟩ := hrel
    have hir : i < r.length := by omega
    obtain ⟨b, o, rfl, e1⟩ := (HR.out.keep HB.out).iv hir
    obtain ⟨x0, x1⟩ := HX.out r[i] (List.getElem_mem hir)
    obtain ⟨x, hx⟩ := Int.eq_ofNat_of_zero_le x0
    rw [hx] at e1 x1
    have hxl : x < M.length := by omega
    have CN := Lib.hid (HC.out wr HB.out x hxl)
    have HB2 := Lib.hid (HB.out.drew)
    rcases Nat.lt_or_ge i j with h1 | h1
    · have hd : decide (atZ M x = f) = false := by
        refine decide_eq_false ?_
        have := HBf.out i hir h1
        rwa [hx, Int.toNat_natCast] at this
      rw [hd] at CN
      clear hd hx x0 x1 HB
      go_wp2_with (go_at_call 74; refine CN.out.mono ?_; rintro e w2 ⟨rfl, rfl⟩)
      go_roundw
      case rel => exact ⟨i + 1, by go_num, by omega, HB2⟩
      case measure => simp [intOf]; omega
    · obtain rfl : i = j := by omega
      have hd : decide (atZ M x = f) = true := by
        refine decide_eq_true ?_
        have := HJ.out
        rwa [hx, Int.toNat_natCast] at this
      rw [hd] at CN
      clear hd hx x0 x1 HB
      go_wp2_with (go_at_call 74; refine CN.out.mono ?_; rintro e w2 ⟨rfl, rfl⟩)
      go_ret
      exact ⟨rfl, HB2.out⟩
/-- How long a slice is. -/
def lnOf : Value → Nat
  | .slice _ n _ => n
  | _ => 0
theorem zeros24 : (List.replicate 24 (Value.int .i64 0)).length = 24 := by simp
/-- The first place in a row. -/
theorem first_at {r M : List Int} {f : Int} {y : Nat} (h : r.find? (fun y => decide (atZ M y.toNat = f)) = some (y : Int)) : ∃ (j : Nat) (hj : j < r.length), r[j] = (y : Int) ∧ atZ M r[j].toNat = f ∧ ∀ i (h : i < r.length), i < j → atZ M r[i].toNat ≠ f := by
  obtain ⟨h1, j, hj, h2, h3⟩ := List.find?_eq_some_iff_getElem.1 h
  refine ⟨j, hj, h2, by rw [h2]; simpa using h1, fun i hi hij => ?_⟩
  have := h3 i hij
  simpa using this
theorem wk_step {h : GraphD} {M W T : List Int} {f x : Nat} (e : W ++ wkF h M (f + 1) x = T) : (W ++ [(x : Int)]) ++ wkF h M f (nxF h M x (f + 1)) = T := by
  rw [← e, List.append_assoc]; rfl
theorem own_keep {w w' : World} {base n : Nat} {e : TypeId} {v : Value} {xs : List Value} (h : w.ownsRow base e 1 v n xs) (hb : Below w.heap.size w w') : w'.ownsRow base e 1 v n xs := by
  obtain ⟨h1, h2⟩ := h
  refine ⟨h1, ?_⟩
  rcases h2 with h2 | ⟨g, cap, cur, hv, hg, hh, hr⟩
  · exact .inl h2
  · exact .inr ⟨g, cap, cur, hv, hg, (hb.block g (block_lt hh)).trans hh, hr⟩
theorem gd_low {w : World} {base base' n : Nat} {e : TypeId} {v : Value} {xs : List Value} (h : w.ownsRow base e 1 v n xs) (hb : base' ≤ base) : w.ownsRow base' e 1 v n xs := by
  obtain ⟨h1, h2⟩ := h
  refine ⟨h1, ?_⟩
  rcases h2 with h2 | ⟨g, cap, cur, hv, hg, hr⟩
  · exact .inl h2
  · exact .inr ⟨g, cap, cur, hv, by omega, hr⟩
/-- The two cells of the loop at its start. -/
theorem two_start (W : World) (v F : Int) : ((W.alloc (.cells #[.int .i64 v] 3)).alloc (.cells #[.int .i64 F] 3)).heap[W.heap.size]? = some (.cells #[.int .i64 v] 3 (0, 0)) ∧
    ((W.alloc (.cells #[.int .i64 v] 3)).alloc (.cells #[.int .i64 F] 3)).heap[W.heap.size + 1]? = some (.cells #[.int .i64 F] 3 (0, 0)) ∧
    W.heap.size + 2 ≤ ((W.alloc (.cells #[.int .i64 v] 3)).alloc (.cells #[.int .i64 F] 3)).heap.size ∧
    Below W.heap.size W ((W.alloc (.cells #[.int .i64 v] 3)).alloc (.cells #[.int .i64 F] 3)) := by
  have s1 : (W.alloc (.cells #[.int .i64 v] 3)).heap.size = W.heap.size + 1 := by simp
  refine ⟨?_, ?_, by simp, ?_⟩
  · rw [Below.heap_alloc _ _ _ (by rw [s1]; omega)]
    exact heap_alloc_new W _
  · rw [← s1]
    exact heap_alloc_new _ _
  · exact ((Below.refl W.heap.size W).alloc (Nat.le_refl _) _).alloc (by rw [s1]; omega) _
set_option maxRecDepth 100000 in
set_option maxHeartbeats 8000000 in
theorem walk_c (A B : Option Addr) (c d : Nat) (h : GraphD) (T : List Int) (v : Nat) (w : World) (ha : RowsAt w A h) (hb : RowsAt w B (revG h)) (hg : validG h = true) (hv : v < h.length) (hT : T.length ≤ 25) (hT0 : ∀ M, StF h v M → atZ M v = 0 → T = []) (hT1 : ∀ M (F : Nat), StF h v M → atZ M v = (F : Int) + 1 → T = wkF h M F v) :
    Calls Try.prog 55 #[.slice A h.length c, .slice B h.length d, .int .i64 v] w fun e w' => ∃ u, e = .returned u ∧ w'.ownsRow w.heap.size 3 1 u T.length (T.map Iv) ∧ Below w.heap.size w w' := by
  have CS := Lib.hid (steps_c B d h v w hb hg hv)
  have HA := Lib.hid ha
  have HG := Lib.hid hg
  have hl24 := validG_len hg
  have HR24 := Lib.hid (validG_short hg)
  have HT0 := Lib.hid hT0
  have HT1 := Lib.hid hT1
  clear ha hb hg hT0 hT1
  have hmf : ∀ (fn : Fn) (first cap : Array Value) (w : World), (Instr.makeFunc fn first cap).run Try.prog w = .ok (.func fn first cap) w := fun _ _ _ _ => rfl
  go_enter Try.func55, Try.ntmps55
  go_wp2_with fail
  refine CS.out.mono ?_
  rintro e w1 ⟨M, hst, rfl, hb1⟩
  have HST := Lib.hid hst
  have hMl : M.length = h.length := hst.len
  have HB1 := Lib.hid hb1
  have h24 : (padZ M).length = 24 := padZ_length (by omega)
  have hz24 := zeros24
  have HN := Lib.hid (zeros_new w1)
  have HN2 := Lib.hid (HN.out.row (l' := padZ M))
  have HB2 := Lib.hid (below_rowZ (hb1.alloc hb1.size (.cells #[.int .i64 0, .int .i64 0, .int .i64 0, .int .i64 0, .int .i64 0, .int .i64 0, .int .i64 0, .int .i64 0, .int .i64 0, .int .i64 0, .int .i64 0, .int .i64 0, .int .i64 0, .int .i64 0, .int .i64 0, .int .i64 0, .int .i64 0, .int .i64 0, .int .i64 0, .int .i64 0, .int .i64 0, .int .i64 0, .int .i64 0, .int .i64 0] 57)) hb1.size (padZ M).toArray)
  have hGw : w.heap.size ≤ w1.heap.size := hb1.size
  have hW2s : ((w1.alloc (.cells #[.int .i64 0, .int .i64 0, .int .i64 0, .int .i64 0, .int .i64 0, .int .i64 0, .int .i64 0, .int .i64 0, .int .i64 0, .int .i64 0, .int .i64 0, .int .i64 0, .int .i64 0, .int .i64 0, .int .i64 0, .int .i64 0, .int .i64 0, .int .i64 0, .int .i64 0, .int .i64 0, .int .i64 0, .int .i64 0, .int .i64 0, .int .i64 0] 57)).setRow w1.heap.size (padZ M).toArray).heap.size = w1.heap.size + 1 := by simp [World.setRow]
  clear hst hb1 CS
  have hv24 : v < 24 := by omega
  obtain ⟨e1, _⟩ := HN2.out.cell (padZ_at (M := M) (k := v) (by omega))
  rcases Classical.em (atZ M v = 0) with h0 | h0
  · have HE := Lib.hid (HT0.out M HST.out h0)
    rw [h0] at e1
    go_wp2_with (refine wpList_store_row rfl _ _ _ rfl w1.heap.size _ rfl rfl _ _ HN.out (sizeZl h24) (by rw [List.size_toArray, List.size_toArray, h24, hz24]) (padZ_one _) ?_)
    go_ret
    exact ⟨_, rfl, by rw [HE.out]; exact World.ownsRow_nil _ _ _ _, HB2.out⟩
  · obtain ⟨F1, hF, hF1, hWn⟩ := HST.out.sound v hv h0
    obtain ⟨F, rfl⟩ : ∃ F, F1 = F + 1 := ⟨F1 - 1, by omega⟩
    have hFe : atZ M v = (F : Int) + 1 := by rw [hF]; omega
    have HE := Lib.hid (HT1.out M F HST.out hFe)
    have hF24 : F ≤ 24 := by
      have := congrArg List.length HE.out
      rw [wkF_length] at this
      omega
    rw [hFe] at e1
    have hne : ((F : Int) + 1 == 0) = false := by rw [beq_eq_false_iff_ne]; omega
    have hTS := two_start ((w1.alloc (.cells #[.int .i64 0, .int .i64 0, .int .i64 0, .int .i64 0, .int .i64 0, .int .i64 0, .int .i64 0, .int .i64 0, .int .i64 0, .int .i64 0, .int .i64 0, .int .i64 0, .int .i64 0, .int .i64 0, .int .i64 0, .int .i64 0, .int .i64 0, .int .i64 0, .int .i64 0, .int .i64 0, .int .i64 0, .int .i64 0, .int .i64 0, .int .i64 0] 57)).setRow w1.heap.size (padZ M).toArray) v F
    rw [hW2s] at hTS
    obtain ⟨k1, k2, k3, k4⟩ := hTS
    have K1 := Lib.hid k1
    have K2 := Lib.hid k2
    have KZ := Lib.hid (HN2.out.keep k4 (Nat.lt_succ_self _))
    have KB := Lib.hid (HB2.out.trans (k4.mono (by omega)))
    clear k1 k2 k4 HN2 HB2 hF h0 hWn
    go_wp2_with (refine wpList_store_row rfl _ _ _ rfl w1.heap.size _ rfl rfl _ _ HN.out (sizeZl h24) (by rw [List.size_toArray, List.size_toArray, h24, hz24]) (padZ_one _) ?_)
    clear hW2s HN
    generalize (((w1.alloc (.cells #[.int .i64 0, .int .i64 0, .int .i64 0, .int .i64 0, .int .i64 0, .int .i64 0, .int .i64 0, .int .i64 0, .int .i64 0, .int .i64 0, .int .i64 0, .int .i64 0, .int .i64 0, .int .i64 0, .int .i64 0, .int .i64 0, .int .i64 0, .int .i64 0, .int .i64 0, .int .i64 0, .int .i64 0, .int .i64 0, .int .i64 0, .int .i64 0] 57)).setRow w1.heap.size (padZ M).toArray).alloc (.cells #[.int .i64 v] 3)).alloc (.cells #[.int .i64 F] 3) = w3 at *
    generalize w1.heap.size = G at *
    have HO : Hid (w3.ownsRow (G + 1) 3 1 (.slice (some ⟨G + 1, 0, none⟩) 1 1) 1 (([] ++ [(v : Int)]).map Iv)) := Lib.hid ⟨rfl, .inr ⟨G + 1, 1, #[Iv v], rfl, Nat.le_refl _, K1.out, by omega, by unfold maxLen; omega, rfl, rfl⟩⟩
    have HW : Hid ([] ++ wkF h M F v = T) := Lib.hid HE.out.symm
    have hGs : G + 1 + 1 < w3.heap.size := lt_of_block K2.out
    clear K1 HE hF1 hne e1 HT0 HT1 HB1 hz24 h24 hv24
    go_loopw [8, 9] (fun lv pv wr => ∃ (f x q cap H : Nat) (W : List Int), lv = .slice (some ⟨q, 0, none⟩) (W.length + 1) cap ∧ pv = .pointer (some ⟨H, 0, none⟩) ∧ q ≠ H ∧ G + 1 ≤ H ∧ x < h.length ∧ W.length + f = F ∧ Hid (atZ M x = (f : Int) + 1) ∧ Hid (W ++ wkF h M f x = T) ∧
      Hid (wr.ownsRow (G + 1) 3 1 (.slice (some ⟨q, 0, none⟩) (W.length + 1) cap) (W.length + 1) ((W ++ [(x : Int)]).map Iv)) ∧ Hid (wr.heap[H]? = some (.cells #[.int .i64 f] 3 (0, 0))) ∧ Hid (ArrD wr G 57 (padZ M)) ∧ Hid (Below w.heap.size w wr)) (fun lv _ _ => F + 2 - lnOf lv)
    case atStart => exact ⟨F, v, G + 1, 1, G + 1 + 1, [], rfl, rfl, by omega, by omega, hv, by simp, Lib.hid hFe, HW, HO, K2, KZ, KB⟩
    case round =>
      clear HO K2 KZ KB HW hFe k3 hGs
      obtain ⟨f, x, q, cap, H, W, rfl, rfl, hqH, hGH, hx, hWf, HMx, HW, HO, HH, HZ, HB⟩ := hrel
      have eH : wr.cell? ⟨H, 0, none⟩ = some (.int .i64 f) := cell_of_one HH.out
      rcases f with _ | f
      · have HE : Hid (W ++ [(x : Int)] = T) := HW
        have hTl : W.length + 1 = T.length := by rw [← HE.out]; simp
        clear HW HMx
        go_wp2
        go_ret
        exact ⟨_, rfl, by rw [← hTl, ← HE.out]; exact gd_low HO.out (by omega), HB.out⟩
      · have ex : wr.cell? ⟨q, W.length, none⟩ = some (.int .i64 x) := (own_get HO.out (i := W.length) (u := Iv x) (by simp)).1
        obtain ⟨n1, n2, n3⟩ := HST.out.nxF HG.out hx (f := f) HMx.out
        have HW2 : Hid ((W ++ [(x : Int)]) ++ wkF h M f (nxF h M x (f + 1)) = T) := Lib.hid (wk_step HW.out)
        rw [rowG_at hx] at n3
        have HX := Lib.hid (rowOk_row HG.out hx)
        rw [rowG_at hx] at HX
        obtain ⟨bg, og, A2, c2, rfl, e1, h1⟩ := HA.out.one hx
        have hbg : bg < w.heap.size := World.block_lt_of_cell? _ _ e1
        have e1r : wr.cell? ⟨bg, og + x, none⟩ = some (.slice A2 h[x].length c2) := (HB.out.cell (p := ⟨bg, og + x, none⟩) hbg).trans e1
        have hr24 := HR24.out _ (List.getElem_mem hx)
        generalize h[x] = r at *
        generalize nxF h M x (f + 1) = y at *
        obtain ⟨j, hj, hjy, hjf, hbef⟩ := first_at n3
        obtain ⟨br, or_, rfl, e2⟩ := h1.iv hj
        have hbr : br < w.heap.size := World.block_lt_of_cell? _ _ e2
        rw [hjy] at e2
        have CI := Lib.hid (idx_c _ c2 G H r M ((f + 1 : Nat) : Int) j wr (h1.keep HB.out) HZ.out HH.out (by omega) hr24 (fun z hz => by have := HX.out z hz; omega) hj hjf hbef)
        have HMy := Lib.hid n2
        clear n2 n3 HW HMx e1 h1 hjy hjf hbef HX
        have hq24 : W.length ≤ 24 := by omega
        go_wp2_with fail
        refine CI.out.mono ?_
        rintro e w4 ⟨rfl, hb4⟩
        have hHw : H < wr.heap.size := lt_of_block HH.out
        have hGw4 : G < wr.heap.size := HZ.out.lt
        have HB4 := Lib.hid (HB.out.trans (hb4.mono HB.out.size))
        have e2r : w4.cell? ⟨br, or_ + j, none⟩ = some (.int .i64 y) := (HB4.out.cell (p := ⟨br, or_ + j, none⟩) hbr).trans e2
        have HH4 : Hid (w4.heap[H]? = some (.cells #[.int .i64 ((f + 1 : Nat) : Int)] 3 (0, 0))) := Lib.hid ((hb4.block H hHw).trans HH.out)
        have HZ4 := Lib.hid (HZ.out.keep hb4 hGw4)
        have HO4 := Lib.hid (own_keep HO.out hb4)
        have hs4 : wr.heap.size ≤ w4.heap.size := hb4.size
        have HOa := Lib.hid (fun ob => HO4.out.alloc ob)
        obtain ⟨i0, hi0, hz0, hz1, hz2⟩ := info_parts Try.infoIntG
        clear CI hb4 HO HH HZ HB eH ex e1r e2
        go_wp2_with (at_builtin; (refine wpList_append_lies _ rfl _ _ 23 rfl (G + 1) 3 i0 (.int .i64 0) 1 8 Try.underlying23 hi0 hz0 hz1 hz2 rfl (by omega) (.slice (some ⟨q, 0, none⟩) (W.length + 1) cap) (W.length + 1) ((W ++ [(x : Int)]).map Iv) (by rfl) (HOa.out _) ⟨_, 0, none⟩ 1 1 [Iv y] (by rfl) (by rfl) (World.news_of_block (cs := #[Iv y]) (t := 3) (fr := (0, 0)) (heap_alloc_new _ _)) (by simp [Value.oneCell']) (by omega) (by unfold maxLen; omega) (by omega) (by simp; omega) _ rfl ?_))
        intro q8 cap8 w8 hown hgrow hat hlt8
        have hlen : W.length + 1 + 1 = (W ++ [(x : Int)]).length + 1 := by simp
        have HLen := Lib.hid hlen
        have hq8 : q8 ≠ H := by
          rcases hat with h1 | h1
          · simp [Value.ownBlock] at h1; omega
          · have e : (w4.alloc (.cells #[.int .i64 y] 3)).heap.size = w4.heap.size + 1 := by simp
            omega
        have eqH : some H ≠ (Value.slice (some ⟨q, 0, none⟩) (W.length + 1) cap).ownBlock := by
          intro e; simp [Value.ownBlock] at e; exact hqH e.symm
        have eqG : some G ≠ (Value.slice (some ⟨q, 0, none⟩) (W.length + 1) cap).ownBlock := by
          intro e
          have := own_base HO4.out q rfl
          simp [Value.ownBlock] at e; omega
        have HH8 : w8.heap[H]? = some (.cells #[.int .i64 ((f + 1 : Nat) : Int)] 3 (0, 0)) := (hgrow.block H (by simp; omega) eqH).trans ((Below.heap_alloc _ _ _ (by omega)).trans HH4.out)
        have eH8 : w8.cell? ⟨H, 0, none⟩ = some (.int .i64 ((f + 1 : Nat) : Int)) := cell_of_one HH8
        have HZ8 := Lib.hid ((HZ4.out.alloc (.cells #[.int .i64 y] 3)).grown hgrow eqG)
        have HB8 := Lib.hid ((HB4.out.alloc HB4.out.size (.cells #[.int .i64 y] 3)).grown hgrow (by have := HB4.out.size; simp; omega) (fun k hk => by
          have h2 := own_base HO4.out q rfl
          simp [Value.ownBlock] at hk; omega))
        have HO8 := Lib.hid hown
        have hs8 := hgrow.size
        clear hown hgrow hat HH8 HO4 HOa HZ4 HB4 HH4 e2r hlen eqH eqG
        go_wp2
        go_roundw
        case rel => exact ⟨f, y, q8, cap8, w8.heap.size, W ++ [(x : Int)], by rw [HLen.out], rfl, by omega, by have := HB8.out.size; have e : (w4.alloc (.cells #[.int .i64 y] 3)).heap.size = w4.heap.size + 1 := by simp
                                                                                                               omega, n1, by simp; omega, Lib.hid (by have := HMy.out; omega), HW2, Lib.hid (by have h8 := HO8.out.alloc (.cells #[.int .i64 (f : Int)] 3); rw [← HLen.out]; simpa using h8), Lib.hid (heap_alloc_new _ _), Lib.hid (HZ8.out.alloc _), Lib.hid (HB8.out.alloc HB8.out.size _)⟩
        case measure => simp [lnOf]; omega
end Go.Proofs.Ytfgpenekmokdiaa
