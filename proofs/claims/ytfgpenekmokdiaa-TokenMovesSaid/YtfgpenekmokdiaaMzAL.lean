/- Joined texts. -/
import Derived.Test.YtfgpenekmokdiaaMzAC
import Derived.Test.YtfgpenekmokdiaaMzAD
import Derived.Test.YtfgpenekmokdiaaMzAJ
import Derived.Test.YtfgpenekmokdiaaMzAK
import Derived.BigQuiet
import Derived.Test.YtfgpenekmokdiaaMzAH
import Derived.Test.YtfgpenekmokdiaaMzAI
import Derived.Laws.Rows
import Derived.Laws.Tables
namespace Go.Proofs.Ytfgpenekmokdiaa
open Go Go.RowKit Fl

theorem posB_false {g : GraphD} {ts ws : List Int} {i : Nat} (hi : i < ts.length) (h : tokB g ts ws i = false) : posB g ts ws = false := by
  unfold posB
  have : (List.range ts.length).all (tokB g ts ws) = false := by
    rw [List.all_eq_false]
    exact ⟨i, List.mem_range.2 hi, by simp [h]⟩
  rw [this, Bool.and_false]
theorem range_all_succ {p : Nat → Bool} {k : Nat} (h : (List.range k).all p = true) (hk : p k = true) : (List.range (k + 1)).all p = true := by
  rw [List.range_succ, List.all_append, h]
  simp [hk]
theorem drew_add (w : World) (a b : Nat) : (w.drewN a).drewN b = w.drewN (a + b) := by simp [World.drewN, Nat.add_assoc]
theorem holds_front {w : World} {A : Option Addr} {xs : List Value} (h : Holds w A xs) (n : Nat) : Holds w A (xs.take n) := by
  rcases h with h | ⟨b, o, hA, hb, hc⟩
  · left; subst h; simp
  · right
    refine ⟨b, o, hA, hb, fun j hj => ?_⟩
    rw [List.length_take] at hj
    rw [hc j (by omega), List.getElem_take]
set_option maxRecDepth 100000 in
set_option maxHeartbeats 8000000 in
theorem pos_c (A A1 A2 : Option Addr) (c c1 c2 : Nat) (g : GraphD) (ts ws : List Int) (w : World) (hh : RowsAt w A g) (h1 : Holds w A1 (ts.map Iv)) (h2 : Holds w A2 (ws.map Iv)) (hcap : ts.length ≤ c1) (hl : g.length ≤ 1000000000000000000) (hr : ∀ r ∈ g, r.length ≤ 1000000000000000000) :
    Calls Try.prog 18 #[.slice A g.length c, .slice A1 ts.length c1, .slice A2 ws.length c2] w fun e w' => e = .returned (.bool (posB g ts ws)) ∧ ∃ n, w' = w.drewN n := by
  have CV := Lib.hid (refGValid_c A c g w hh hl hr)
  have HR := Lib.hid hr
  have HG := Lib.hid hh
  have H1 := Lib.hid h1
  have H2 := Lib.hid h2
  have HPos : Hid (posB g ts ws = (validG g && decide (ts.length = ws.length ∧ ts.length ≤ 24) && (List.range ts.length).all (tokB g ts ws))) := Lib.hid rfl
  have HFa := Lib.hid (fun i (hi : i < ts.length) (h : tokB g ts ws i = false) => posB_false hi h)
  clear hh h1 h2 hr
  go_enter Try.func18, Try.ntmps18
  go_wp2_with fail
  refine CV.out.mono ?_
  rintro e w1 ⟨rfl, rfl⟩
  clear CV
  rcases hv : validG g with _ | _
  · have HE : Hid (posB g ts ws = false) := Lib.hid (by rw [HPos.out, hv]; rfl)
    clear hv HPos
    go_wp2
    go_ret
    exact ⟨gr_bool HE.out.symm, 0, rfl⟩
  · by_cases hlen : ts.length = ws.length
    · by_cases h24 : ts.length ≤ 24
      · have HEnd : Hid ((List.range ts.length).all (tokB g ts ws) = true → posB g ts ws = true) := Lib.hid (fun h => by rw [HPos.out, hv, h, decide_eq_true ⟨hlen, h24⟩]; rfl)
        have HLen := Lib.hid hlen
        have hb1 : ((ts.length : Int) != (ws.length : Int)) = false := by rw [hlen]; simp
        have hb2 : ¬ ((24 : Int) < (ts.length : Int)) := by omega
        clear HPos hv hlen
        go_wp2
        clear hb1 hb2
        go_loopw [7] (fun i wr => ∃ k : Nat, i = .int .i64 k ∧ k ≤ ts.length ∧ Hid ((List.range k).all (tokB g ts ws) = true) ∧ Hid (∃ n, wr = w.drewN n)) (fun i _ => ts.length - (intOf i).toNat)
        case atStart => exact ⟨0, rfl, Nat.zero_le _, Lib.hid rfl, Lib.hid ⟨0, rfl⟩⟩
        case round =>
          obtain ⟨k, rfl, hk, HK, HW⟩ := hrel
          have HGr : Hid (RowsAt wr A g) := Lib.hid (by obtain ⟨n, e⟩ := HW.out; rw [e]; exact HG.out.keep (below_drewN (Below.refl _ _) n))
          have H1r : Hid (Holds wr A1 (ts.map Iv)) := Lib.hid (by obtain ⟨n, e⟩ := HW.out; rw [e]; exact H1.out.drewN n)
          have H2r : Hid (Holds wr A2 (ws.map Iv)) := Lib.hid (by obtain ⟨n, e⟩ := HW.out; rw [e]; exact H2.out.drewN n)
          have HWn : Hid (∀ m, ∃ n, wr.drewN m = w.drewN n) := Lib.hid (fun m => by obtain ⟨n, e⟩ := HW.out; exact ⟨n + m, by rw [e, drew_add]⟩)
          by_cases hlt : k < ts.length
          · have hlw : k < ws.length := by rw [← HLen.out]; exact hlt
            have HT : Hid (tokB g ts ws k = decide (0 ≤ ts[k] ∧ ts[k] < g.length ∧ ts[k] ∉ ts.take k ∧ (ws[k] = -1 ∨ ws[k] ∈ rowG g ts[k].toNat))) := Lib.hid (by unfold tokB; rw [Fl.atI_get hlt, Fl.atI_get hlw])
            obtain ⟨b1, o1, rfl, e1⟩ := H1r.out.iv hlt
            obtain ⟨b2, o2, rfl, e2⟩ := H2r.out.iv hlw
            have hkl : (ts.take k).length = k := by rw [List.length_take]; omega
            have CT : Hid (∀ m x, Calls Try.prog 32 #[.slice (some ⟨b1, o1, none⟩) k c1, .int .i64 x] (wr.drewN m) fun e w' => e = .returned (.bool (decide (x ∈ ts.take k))) ∧ w' = wr.drewN m) := Lib.hid (fun m x => by
              have h := has_c (some ⟨b1, o1, none⟩) c1 (ts.take k) x (wr.drewN m) (by
                have h0 := holds_front (H1r.out.drewN m) k
                rwa [← List.map_take] at h0) (by omega)
              rw [hkl] at h
              exact h.mono fun e w' q => ⟨q.1, q.2.symm⟩)
            have HGo : Hid (tokB g ts ws k = true → (List.range (k + 1)).all (tokB g ts ws) = true) := Lib.hid (fun h => range_all_succ HK.out h)
            have HNo := Lib.hid (HFa.out k hlt)
            have hc1 : (k : Int) ≤ (c1 : Int) := by omega
            clear HK hkl
            generalize ws[k] = y at *
            generalize hxk : ts[k] = x at *
            clear hxk
            by_cases hx0 : x < 0
            · have HE := Lib.hid (HNo.out (by rw [HT.out]; exact decide_eq_false (fun h => by omega)))
              clear HT HGo HNo
              go_wp2_with fail
              go_quiet (fail)
              go_wp2
              go_ret
              exact ⟨gr_bool HE.out.symm, HWn.out _⟩
            · obtain ⟨xn, rfl⟩ := Int.eq_ofNat_of_zero_le (show 0 ≤ x by omega)
              have hd0 : decide ((xn : Int) < 0) = false := decide_eq_false hx0
              by_cases hxl : xn < g.length
              · have hdl : decide (g.length ≤ xn) = false := decide_eq_false (by omega)
                obtain ⟨b0, o0, A3, c3, rfl, e3, h3⟩ := HGr.out.one hxl
                have h3l := HR.out _ (List.getElem_mem hxl)
                have CR : Hid (∀ m z, Calls Try.prog 32 #[.slice A3 g[xn].length c3, .int .i64 z] (wr.drewN m) fun e w' => e = .returned (.bool (decide (z ∈ g[xn]))) ∧ w' = wr.drewN m) := Lib.hid (fun m z => (has_c A3 c3 g[xn] z (wr.drewN m) (h3.drewN m) h3l).mono fun e w' q => ⟨q.1, q.2.symm⟩)
                rw [Int.toNat_natCast, rowG_at hxl] at HT
                clear h3
                generalize g[xn] = row at *
                by_cases hin : (xn : Int) ∈ ts.take k
                · have HE := Lib.hid (HNo.out (by rw [HT.out]; exact decide_eq_false (fun h => h.2.2.1 hin)))
                  have C1 : Hid (∀ m, Calls Try.prog 32 #[.slice (some ⟨b1, o1, none⟩) k c1, .int .i64 xn] (wr.drewN m) fun e w' => e = .returned (.bool true) ∧ w' = wr.drewN m) := Lib.hid (fun m => by
                    have h := CT.out m xn
                    rwa [decide_eq_true hin] at h)
                  clear HT HGo HNo CT CR hin
                  go_wp2_with fail
                  go_quiet (first | (go_at_call 32; with_reducible exact Calls.quiet_of_same (C1.out _)))
                  go_wp2
                  go_ret
                  exact ⟨gr_bool HE.out.symm, HWn.out _⟩
                · have C1 : Hid (∀ m, Calls Try.prog 32 #[.slice (some ⟨b1, o1, none⟩) k c1, .int .i64 xn] (wr.drewN m) fun e w' => e = .returned (.bool false) ∧ w' = wr.drewN m) := Lib.hid (fun m => by
                    have h := CT.out m xn
                    rwa [decide_eq_false hin] at h)
                  by_cases hy : y = -1
                  · have HK2 := Lib.hid (HGo.out (by rw [HT.out]; exact decide_eq_true ⟨by omega, by omega, hin, .inl hy⟩))
                    subst hy
                    clear HT HGo HNo CT CR hin
                    go_wp2_with fail
                    go_quiet (first | (go_at_call 32; with_reducible exact Calls.quiet_of_same (C1.out _)))
                    go_wp2
                    go_roundw
                    case rel => exact ⟨k + 1, by go_num, by omega, HK2, Lib.hid (HWn.out _)⟩
                    case measure => simp [intOf]; omega
                  · have hy1 : (y == -1) = false := by simpa using hy
                    have hyn : (y != -1) = true := by simpa using hy
                    by_cases hm : y ∈ row
                    · have HK2 := Lib.hid (HGo.out (by rw [HT.out]; exact decide_eq_true ⟨by omega, by omega, hin, .inr hm⟩))
                      have C2 : Hid (∀ m, Calls Try.prog 32 #[.slice A3 row.length c3, .int .i64 y] (wr.drewN m) fun e w' => e = .returned (.bool true) ∧ w' = wr.drewN m) := Lib.hid (fun m => by
                        have h := CR.out m y
                        rwa [decide_eq_true hm] at h)
                      clear HT HGo HNo CT CR hin hm
                      go_wp2_with fail
                      go_quiet (first | (go_at_call_of 32 xn; with_reducible exact Calls.quiet_of_same (C1.out _)) | (go_at_call_of 32 y; with_reducible exact Calls.quiet_of_same (C2.out _)))
                      go_wp2
                      go_roundw
                      case rel => exact ⟨k + 1, by go_num, by omega, HK2, Lib.hid (HWn.out _)⟩
                      case measure => simp [intOf]; omega
                    · have HE := Lib.hid (HNo.out (by rw [HT.out]; exact decide_eq_false (fun h => by
                        rcases h.2.2.2 with h | h
                        · exact hy h
                        · exact hm h)))
                      have C2 : Hid (∀ m, Calls Try.prog 32 #[.slice A3 row.length c3, .int .i64 y] (wr.drewN m) fun e w' => e = .returned (.bool false) ∧ w' = wr.drewN m) := Lib.hid (fun m => by
                        have h := CR.out m y
                        rwa [decide_eq_false hm] at h)
                      clear HT HGo HNo CT CR hin hm
                      go_wp2_with fail
                      go_quiet (first | (go_at_call_of 32 xn; with_reducible exact Calls.quiet_of_same (C1.out _)) | (go_at_call_of 32 y; with_reducible exact Calls.quiet_of_same (C2.out _)))
                      go_wp2
                      go_ret
                      exact ⟨gr_bool HE.out.symm, HWn.out _⟩
              · have HE := Lib.hid (HNo.out (by rw [HT.out]; exact decide_eq_false (fun h => by omega)))
                have hdl : decide (g.length ≤ xn) = true := decide_eq_true (by omega)
                clear HT HGo HNo
                go_wp2_with fail
                go_quiet (fail)
                go_wp2
                go_ret
                exact ⟨gr_bool HE.out.symm, HWn.out _⟩
          · obtain rfl : k = ts.length := by omega
            have HE := Lib.hid (HEnd.out HK.out)
            go_wp2
            go_ret
            exact ⟨gr_bool HE.out.symm, HW.out⟩
      · have HE : Hid (posB g ts ws = false) := Lib.hid (by rw [HPos.out, hv, decide_eq_false (fun h => h24 h.2)]; rfl)
        have hb1 : ((ts.length : Int) != (ws.length : Int)) = false := by rw [hlen]; simp
        have hb2 : (24 : Int) < (ts.length : Int) := by omega
        clear hv HPos hlen
        go_wp2
        go_ret
        exact ⟨gr_bool HE.out.symm, 0, rfl⟩
    · have HE : Hid (posB g ts ws = false) := Lib.hid (by rw [HPos.out, hv, decide_eq_false (fun h => hlen h.1)]; rfl)
      have hb1 : ((ts.length : Int) != (ws.length : Int)) = true := by rw [bne_iff_ne]; omega
      clear hv HPos
      go_wp2
      go_ret
      exact ⟨gr_bool HE.out.symm, 0, rfl⟩
end Go.Proofs.Ytfgpenekmokdiaa
namespace Go.Proofs.Ytfgpenekmokdiaa
open Go Go.RowKit Fl

/-- A board of the 24 numbers B in block G. -/
def BdAt (w : World) (G : Nat) (B : List Int) : Prop := ArrD w G 58 (B.map Iv)
def bdC (B : List Int) : Array Value := (B.map Iv).toArray
theorem bdC_one (B : List Int) : (bdC B).all (·.oneCell') = true := by
  refine Array.all_eq_true_iff_forall_mem.2 fun v hv => ?_
  simp only [bdC, List.mem_toArray, List.mem_map] at hv
  obtain ⟨x, _, rfl⟩ := hv
  rfl
theorem Try.undB : Try.prog.underlying 58 = some (.array 24 3) := by kernel_rfl
theorem Try.sizeB : (Try.prog.info? 58).map (·.size) = some 24 := by kernel_rfl
theorem sizeBl {B : List Int} (h : B.length = 24) : (Try.prog.info? 58).map (·.size) = some (bdC B).size := by unfold bdC; rw [List.size_toArray, List.length_map, h]; exact Try.sizeB
theorem BdAt.cell {w : World} {G : Nat} {B : List Int} (h : BdAt w G B) {k : Nat} (hk : k < B.length) : w.cell? ⟨G, k, none⟩ = some (.int .i64 B[k]) ∧ w.frozen? ⟨G, k, none⟩ = false := ArrD.cell h (by simp [hk])
theorem BdAt.set {w : World} {G : Nat} {B : List Int} (h : BdAt w G B) (k : Nat) (x : Int) : BdAt (w.setCell ⟨G, k, none⟩ (.int .i64 x)) G (B.set k x) := by
  have h1 := ArrD.set h k (.int .i64 x)
  unfold BdAt
  rw [List.map_set]
  exact h1
theorem BdAt.row {w : World} {G : Nat} {B B' : List Int} (h : BdAt w G B) : BdAt (w.setRow G (bdC B')) G B' := ArrD.row (l' := B'.map Iv) h
theorem BdAt.lt {w : World} {G : Nat} {B : List Int} (h : BdAt w G B) : G < w.heap.size := ArrD.lt h
theorem BdAt.keep {w w' : World} {G n : Nat} {B : List Int} (h : BdAt w G B) (hb : Below n w w') (hG : G < n) : BdAt w' G B := ArrD.keep h hb hG
theorem BdAt.put {w : World} {G H k : Nat} {B : List Int} {v : Value} (h : BdAt w G B) (hn : G ≠ H) : BdAt (w.setCell ⟨H, k, none⟩ v) G B := ArrD.put h hn
theorem BdAt.grown {w w' : World} {G : Nat} {B : List Int} {row : Option Nat} (h : BdAt w G B) (hg : w.grownBy w' row) (hn : some G ≠ row) : BdAt w' G B := ArrD.grown h hg hn
theorem BdAt.alloc {w : World} {G : Nat} {B : List Int} (h : BdAt w G B) (o : Obj) : BdAt (w.alloc o) G B := ArrD.alloc h o
theorem BdAt.rowOther {w : World} {G H : Nat} {B : List Int} {c : Array Value} (h : BdAt w G B) (hn : G ≠ H) : BdAt (w.setRow H c) G B := ArrD.same h (setRow_other w H G c hn)
/-- The zeros of a new board. -/
theorem board_new (w : World) : BdAt (w.alloc (.cells #[.int .i64 0, .int .i64 0, .int .i64 0, .int .i64 0, .int .i64 0, .int .i64 0, .int .i64 0, .int .i64 0, .int .i64 0, .int .i64 0, .int .i64 0, .int .i64 0, .int .i64 0, .int .i64 0, .int .i64 0, .int .i64 0, .int .i64 0, .int .i64 0, .int .i64 0, .int .i64 0, .int .i64 0, .int .i64 0, .int .i64 0, .int .i64 0] 58)) w.heap.size (List.replicate 24 0) := by
  unfold BdAt ArrD
  rw [heap_alloc_new]
  rfl
theorem board_box (w : World) (B : List Int) : BdAt (w.alloc (.cells (bdC B) 58)) w.heap.size B := by
  unfold BdAt ArrD
  rw [heap_alloc_new]
  rfl
section
variable {ops : Array Oper} {rest : List Oper} {o : Oper} {a : Act} {w : World} {Q : Exit → Act → World → Prop}
/-- The whole board is read. -/
theorem load_board (hgd : o.guard = none) (x : Operand) (ho : o.op = .load 58 x) (g : Nat) (hx : a.eval x = .pointer (some ⟨g, 0, none⟩)) {B : List Int} (hm : BdAt w g B) (hl : B.length = 24)
    (h : wpList Try.prog ops Q rest (a.put o.dst (.agg (bdC B))) w) : wpList Try.prog ops Q (o :: rest) a w :=
  wpList_load_row hgd _ x ho g hx _ _ _ _ hm Try.undB rfl (sizeBl hl) h
/-- .. behind a guard that is met. -/
theorem load_boardG (hw : Region.wanted o (yielded ops a.tmps) = true) (x : Operand) (ho : o.op = .load 58 x) (g : Nat) (hx : a.eval x = .pointer (some ⟨g, 0, none⟩)) {B : List Int} (hm : BdAt w g B) (hl : B.length = 24)
    (h : wpList Try.prog ops Q rest (a.put o.dst (.agg (bdC B))) w) : wpList Try.prog ops Q (o :: rest) a w := by
  unfold wpList
  rw [if_pos hw]
  exact .inl (wp_load_row _ x ho g hx _ _ _ _ hm Try.undB rfl (sizeBl hl) h)
/-- The whole board is written. -/
theorem store_board (hgd : o.guard = none) (x y : Operand) (ho : o.op = .store 58 x y) (g : Nat) (hx : a.eval x = .pointer (some ⟨g, 0, none⟩)) {B B' : List Int} (hy : a.eval y = .agg (bdC B')) (hm : BdAt w g B) (hl : B.length = 24) (hl' : B'.length = 24)
    (h : wpList Try.prog ops Q rest (a.put o.dst undef) (w.setRow g (bdC B'))) : wpList Try.prog ops Q (o :: rest) a w :=
  wpList_store_row hgd _ x y ho g _ hx hy _ _ hm (sizeBl hl') (by unfold bdC; rw [List.size_toArray, List.size_toArray, List.length_map, List.length_map, hl, hl']) (bdC_one _) h
end
/-- A board as it is filled. -/
def fillB (k : Nat) : List Int := List.replicate k (-1) ++ List.replicate (24 - k) 0
theorem fillB_length {k : Nat} (h : k ≤ 24) : (fillB k).length = 24 := by simp [fillB]; omega
theorem fillB_set : ∀ k, k < 24 → (fillB k).set k (-1) = fillB (k + 1) := by decide
theorem fillB_end : fillB 24 = bdL [] := by decide
set_option maxRecDepth 100000 in
set_option maxHeartbeats 4000000 in
theorem emptyBoard_c (w : World) : Calls Try.prog 52 #[] w fun e w' => e = .returned (.agg (bdC (bdL []))) ∧ Below w.heap.size w w' := by
  have HM1 := Lib.hid ((board_new w).alloc (.cells #[.int .i64 0, .int .i64 0, .int .i64 0, .int .i64 0, .int .i64 0, .int .i64 0, .int .i64 0, .int .i64 0, .int .i64 0, .int .i64 0, .int .i64 0, .int .i64 0, .int .i64 0, .int .i64 0, .int .i64 0, .int .i64 0, .int .i64 0, .int .i64 0, .int .i64 0, .int .i64 0, .int .i64 0, .int .i64 0, .int .i64 0, .int .i64 0] 58))
  have HM2 := Lib.hid (board_new (w.alloc (.cells #[.int .i64 0, .int .i64 0, .int .i64 0, .int .i64 0, .int .i64 0, .int .i64 0, .int .i64 0, .int .i64 0, .int .i64 0, .int .i64 0, .int .i64 0, .int .i64 0, .int .i64 0, .int .i64 0, .int .i64 0, .int .i64 0, .int .i64 0, .int .i64 0, .int .i64 0, .int .i64 0, .int .i64 0, .int .i64 0, .int .i64 0, .int .i64 0] 58)))
  rw [show (w.alloc (.cells #[.int .i64 0, .int .i64 0, .int .i64 0, .int .i64 0, .int .i64 0, .int .i64 0, .int .i64 0, .int .i64 0, .int .i64 0, .int .i64 0, .int .i64 0, .int .i64 0, .int .i64 0, .int .i64 0, .int .i64 0, .int .i64 0, .int .i64 0, .int .i64 0, .int .i64 0, .int .i64 0, .int .i64 0, .int .i64 0, .int .i64 0, .int .i64 0] 58)).heap.size = w.heap.size + 1 from by simp] at HM2
  have HB2 := Lib.hid (((Below.refl w.heap.size w).alloc (Nat.le_refl _) (.cells #[.int .i64 0, .int .i64 0, .int .i64 0, .int .i64 0, .int .i64 0, .int .i64 0, .int .i64 0, .int .i64 0, .int .i64 0, .int .i64 0, .int .i64 0, .int .i64 0, .int .i64 0, .int .i64 0, .int .i64 0, .int .i64 0, .int .i64 0, .int .i64 0, .int .i64 0, .int .i64 0, .int .i64 0, .int .i64 0, .int .i64 0, .int .i64 0] 58)).alloc (by simp) (.cells #[.int .i64 0, .int .i64 0, .int .i64 0, .int .i64 0, .int .i64 0, .int .i64 0, .int .i64 0, .int .i64 0, .int .i64 0, .int .i64 0, .int .i64 0, .int .i64 0, .int .i64 0, .int .i64 0, .int .i64 0, .int .i64 0, .int .i64 0, .int .i64 0, .int .i64 0, .int .i64 0, .int .i64 0, .int .i64 0, .int .i64 0, .int .i64 0] 58))
  go_enter Try.func52, Try.ntmps52
  go_wp2
  generalize (w.alloc (.cells #[.int .i64 0, .int .i64 0, .int .i64 0, .int .i64 0, .int .i64 0, .int .i64 0, .int .i64 0, .int .i64 0, .int .i64 0, .int .i64 0, .int .i64 0, .int .i64 0, .int .i64 0, .int .i64 0, .int .i64 0, .int .i64 0, .int .i64 0, .int .i64 0, .int .i64 0, .int .i64 0, .int .i64 0, .int .i64 0, .int .i64 0, .int .i64 0] 58)).alloc (.cells #[.int .i64 0, .int .i64 0, .int .i64 0, .int .i64 0, .int .i64 0, .int .i64 0, .int .i64 0, .int .i64 0, .int .i64 0, .int .i64 0, .int .i64 0, .int .i64 0, .int .i64 0, .int .i64 0, .int .i64 0, .int .i64 0, .int .i64 0, .int .i64 0, .int .i64 0, .int .i64 0, .int .i64 0, .int .i64 0, .int .i64 0, .int .i64 0] 58) = w2 at *
  obtain ⟨G, hG⟩ : ∃ G, G = w.heap.size := ⟨_, rfl⟩
  rw [← hG] at HM1 HM2 HB2 ⊢
  have HGG := Lib.hid hG
  clear hG
  have HM3 : Hid (BdAt w2 (G + 1) (fillB 0)) := Lib.hid HM2.out
  clear HM2
  go_loopw [3] (fun i wr => ∃ (v : Nat), i = .int .i64 v ∧ v ≤ 24 ∧ Hid (BdAt wr (G + 1) (fillB v)) ∧ Hid (BdAt wr G (List.replicate 24 0)) ∧ Hid (Below G w wr)) (fun i _ => 24 - (intOf i).toNat)
  case atStart => exact ⟨0, rfl, Nat.zero_le _, HM3, HM1, HB2⟩
  case round =>
    clear HM3 HM1 HB2
    obtain ⟨v, rfl, hv, HM, HM1, HB⟩ := hrel
    by_cases hvt : v < 24
    · obtain ⟨cu, c1, f1⟩ : ∃ cu, wr.cell? ⟨G + 1, v, none⟩ = some cu ∧ wr.frozen? ⟨G + 1, v, none⟩ = false := ⟨_, HM.out.cell (by rw [fillB_length hv]; omega)⟩
      have HM2 : Hid (BdAt (wr.setCell ⟨G + 1, v, none⟩ (.int .i64 (-1))) (G + 1) (fillB (v + 1))) := Lib.hid (by rw [← fillB_set v hvt]; exact HM.out.set v _)
      have HM12 := Lib.hid (HM1.out.put (H := G + 1) (k := v) (v := .int .i64 (-1)) (by omega))
      have HB2 := Lib.hid (below_put (i := v) (v := .int .i64 (-1)) HB.out (Nat.le_succ G))
      clear HM HM1 HB
      go_wp2
      go_roundw
      case rel => exact ⟨v + 1, by go_num, by omega, HM2, HM12, HB2⟩
      case measure => simp [intOf]; omega
    · obtain rfl : v = 24 := by omega
      have HMo : Hid (BdAt wr (G + 1) (bdL [])) := Lib.hid (by rw [← fillB_end]; exact HM.out)
      clear HM
      go_wp2_with (first | refine load_board rfl _ rfl _ rfl HMo.out (bdL_length _) ?_ | refine store_board rfl _ _ rfl _ rfl rfl HM1.out (by simp) (bdL_length _) ?_)
      refine bodyPost_ret (v := .agg (bdC (bdL []))) ?_ rfl ⟨rfl, ?_⟩
      · have hrw : ((wr.setRow G (bdC (bdL [])))).heap[G]? = some (.cells (bdC (bdL [])) 58 (0, 0)) := HM1.out.row (B' := bdL [])
        rw [results_cell_row rfl _ _ _ _ _ _ _ rfl hrw Try.undB rfl (sizeBl (bdL_length _))]
      · rw [← HGG.out]; exact below_rowZ HB.out (Nat.le_refl _) _
set_option maxHeartbeats 1000000 in
theorem isVertex_c (A : Option Addr) (n c : Nat) (v : Int) (w : World) : Calls Try.prog 50 #[.slice A n c, .int .i64 v] w fun e w' => e = .returned (.bool (decide (0 ≤ v ∧ v < n))) ∧ w' = w := by
  by_cases h0 : 0 ≤ v
  · by_cases h1 : v < n
    · have HE : Hid (decide (0 ≤ v ∧ v < n) = true) := Lib.hid (decide_eq_true ⟨h0, h1⟩)
      go_enter Try.func50, Try.ntmps50
      go_wp2
      go_ret
      exact ⟨gr_bool HE.out.symm, rfl⟩
    · go_enter Try.func50, Try.ntmps50
      go_wp2
      go_ret
      exact ⟨gr_bool (by simp; omega), rfl⟩
  · go_enter Try.func50, Try.ntmps50
    go_wp2
    go_ret
    exact ⟨gr_bool (by simp; omega), rfl⟩
set_option maxHeartbeats 1000000 in
/-- The token on a vertex that is wanted. -/
theorem inTheWay_c (B : List Int) (v x : Int) (w : World) (hB : B.length = 24) (hv : (v = -1 ∧ x = -1) ∨ ∃ k : Nat, v = (k : Int) ∧ B[k]? = some x) : Calls Try.prog 36 #[.agg (bdC B), .int .i64 v] w fun e w' => e = .returned (.int .i64 x) ∧ Below w.heap.size w w' := by
  have HN := Lib.hid (board_box w B)
  have HB := Lib.hid ((Below.refl _ w).alloc (Nat.le_refl _) (.cells (bdC B) 58))
  rcases hv with ⟨rfl, rfl⟩ | ⟨k, rfl, hk⟩
  · go_enter Try.func36, Try.ntmps36
    go_wp2
    go_ret
    exact ⟨rfl, HB.out⟩
  · obtain ⟨hk1, hk2⟩ := List.getElem?_eq_some_iff.1 hk
    have hk24 : k < 24 := by omega
    have e1 : (w.alloc (.cells (bdC B) 58)).cell? ⟨w.heap.size, k, none⟩ = some (.int .i64 x) := by rw [(HN.out.cell hk1).1, hk2]
    have hne : ((k : Int) == -1) = false := by rw [beq_eq_false_iff_ne]; omega
    clear hk hk1 hk2 HN hB
    go_enter Try.func36, Try.ntmps36
    go_wp2
    go_ret
    exact ⟨rfl, HB.out⟩
end Go.Proofs.Ytfgpenekmokdiaa
