/- Joined texts. -/
import Derived.Test.YtfgpenekmokdiaaMzAI
import Derived.Test.YtfgpenekmokdiaaTkPosn
import Derived.Test.YtfgpenekmokdiaaMzAP
import Derived.Test.YtfgpenekmokdiaaMzAM
import Derived.Deep.AppendLies
import Derived.Deep.RegionLaw
import Derived.Test.YtfgpenekmokdiaaMzAJ
import Derived.Test.YtfgpenekmokdiaaMzAC
import Derived.Test.YtfgpenekmokdiaaMzAE
import Derived.Test.YtfgpenekmokdiaaShelf
import Derived.Lib.AppendZeros
import Derived.BigQuiet
import Derived.Lib.SliceRun
namespace Go.Proofs.Ytfgpenekmokdiaa
open Go Go.RowKit Fl

/-- Nothing is shut. -/
def opensT (n : Nat) : List Bool := List.replicate n false
def DevKnown12 : Prop := ∀ w : World, Calls Try.prog 10 #[] w fun e w' => e = .returned (.bool true) ∧ Below w.heap.size w w'
def DevFreeT : Prop := ∀ (A A1 A2 : Option Addr) (c c1 c2 : Nat) (g : GraphD) (ts ws : List Int) (w : World), RowsAt w A g → Holds w A1 (ts.map Iv) → Holds w A2 (ws.map Iv) → PosOk g ts ws → ts.length ≤ c1 → ws.length ≤ c2 →
  Calls Try.prog 13 #[.slice A g.length c, .slice A1 ts.length c1, .slice A2 ws.length c2] w fun e w' => (∃ u, e = .returned (.tuple #[u, .int .i64 0]) ∧ w'.ownsRow w.heap.size 3 1 u (freeL ts ws ts.length).length ((freeL ts ws ts.length).map Iv)) ∧ Below w.heap.size w w'
def DevStuckT : Prop := ∀ (A A1 A2 : Option Addr) (c c1 c2 : Nat) (g : GraphD) (ts ws : List Int) (w : World), RowsAt w A g → Holds w A1 (ts.map Iv) → Holds w A2 (ws.map Iv) → PosOk g ts ws → ts.length ≤ c1 → ws.length ≤ c2 →
  Calls Try.prog 19 #[.slice A g.length c, .slice A1 ts.length c1, .slice A2 ws.length c2] w fun e w' => e = .returned (.bool (stuckB g ts ws)) ∧ Below w.heap.size w w'
def DevValidT : Prop := ∀ (A A1 A2 : Option Addr) (c c1 c2 : Nat) (g : GraphD) (ts ws : List Int) (w : World), RowsAt w A g → Holds w A1 (ts.map Iv) → Holds w A2 (ws.map Iv) → PosOk g ts ws → ts.length ≤ c1 → ws.length ≤ c2 →
  Calls Try.prog 17 #[.slice A g.length c, .slice A1 ts.length c1, .slice A2 ws.length c2] w fun e w' => e = .returned (.bool true) ∧ Below w.heap.size w w'
/-- Ring of a position that has one. -/
def DevRingT : Prop := ∀ (A A1 A2 : Option Addr) (c c1 c2 : Nat) (g : GraphD) (ts ws : List Int) (w : World), RowsAt w A g → Holds w A1 (ts.map Iv) → Holds w A2 (ws.map Iv) → PosOk g ts ws → ts.length ≤ c1 → ws.length ≤ c2 → ringE ts ws = 0 →
  Calls Try.prog 15 #[.slice A g.length c, .slice A1 ts.length c1, .slice A2 ws.length c2] w fun e w' => (∃ u, e = .returned (.tuple #[u, .int .i64 0]) ∧ w'.ownsRow w.heap.size 3 1 u (ringL ts ws).length ((ringL ts ws).map Iv)) ∧ Below w.heap.size w w'
/-- Tight of a valid graph. -/
def DevTightT : Prop := ∀ (A : Option Addr) (c : Nat) (g : GraphD) (w : World), RowsAt w A g → validG g = true →
  (girF g (opensT g.length) = [] → Calls Try.prog 24 #[.slice A g.length c] w fun e w' => e = .returned (.tuple #[.slice none 0 0, .slice none 0 0, .int .i64 25]) ∧ Below w.heap.size w w') ∧
  (girF g (opensT g.length) ≠ [] → Calls Try.prog 24 #[.slice A g.length c] w fun e w' => (∃ u v, e = .returned (.tuple #[u, v, .int .i64 0]) ∧ w'.ownsRow w.heap.size 3 1 u (girF g (opensT g.length)).length ((girF g (opensT g.length)).map Iv) ∧ w'.ownsRow w.heap.size 3 1 v (girF g (opensT g.length)).length ((rotL (girF g (opensT g.length))).map Iv)) ∧ Below w.heap.size w w')
theorem opens_open (n v : Nat) : atB (opensT n) v = false := by
  unfold atB opensT
  rw [List.getD_eq_getElem?_getD, List.getElem?_replicate]
  split <;> rfl
theorem opens_len (n : Nat) : (opensT n).length = n := by simp [opensT]
theorem own_cap2 {w : World} {base n : Nat} {e : TypeId} {v : Value} {xs : List Value} (h : w.ownsRow base e 1 v n xs) : ∃ A c, v = .slice A n c ∧ n ≤ c ∧ Holds w A xs := own_cap h
end Go.Proofs.Ytfgpenekmokdiaa
namespace Go.Proofs.Ytfgpenekmokdiaa
open Go Go.RowKit Fl

theorem gir_two {g : GraphD} {sh : List Bool} (hg : validG g = true) (h : girF g sh ≠ []) : 2 ≤ (girF g sh).length := by
  have h0 : 0 < (girF g sh).length := by
    rcases Nat.eq_zero_or_pos (girF g sh).length with e | e
    · exact absurd (List.eq_nil_of_length_eq_zero e) h
    · exact e
  rcases Nat.lt_or_ge (girF g sh).length 2 with h1 | h1
  · exfalso
    have he := gir_edge hg h h0
    have e : (0 + 1) % (girF g sh).length = 0 := by
      rw [show (girF g sh).length = 1 by omega]
    have e2 : (girF g sh)[(0 + 1) % (girF g sh).length]'(Nat.mod_lt _ (by omega)) = (girF g sh)[0] := by congr 1
    rw [e2] at he
    have hx := (gir_closed hg h).walk.ok _ (List.getElem_mem h0)
    obtain ⟨xn, hxn⟩ := Int.eq_ofNat_of_zero_le hx.1
    rw [hxn] at he hx
    have hlt : xn < g.length := by have := hx.2.1; omega
    unfold edgeI at he
    simp only [Int.toNat_natCast] at he
    exact (rowOk_row hg hlt _ he).2.2 rfl
  · exact h1
set_option maxRecDepth 100000 in
set_option maxHeartbeats 4000000 in
theorem refWalk_c (A : Option Addr) (c : Nat) (g : GraphD) (w : World) (hh : RowsAt w A g) (hg : validG g = true) :
    Calls Try.prog 44 #[.slice A g.length c] w fun e w' => ∃ u, e = .returned u ∧ w'.ownsRow w.heap.size 3 1 u (girF g (opensT g.length)).length ((girF g (opensT g.length)).map Iv) ∧ Below w.heap.size w w' := by
  have HH := Lib.hid hh
  have HV := Lib.hid hg
  have h24 := validG_len hg
  clear hh hg
  go_enter Try.func44, Try.ntmps44
  go_wp2_with (refine make_any _ rfl _ _ 50 4 (.bool false) 1 Try.underlying50 Try.infoBoolS rfl (by decide) rfl .i64 .i64 _ _ g.length rfl rfl rfl rfl (by omega) ?_)
  intro wM ownM hbM
  have HRM := Lib.hid (HH.out.keep hbM)
  have HSM : Hid (Holds wM (some ⟨w.heap.size, 0, none⟩) ((opensT g.length).map Bo)) := Lib.hid (by
    obtain ⟨A2, c2, h1, h2⟩ := own_is ownM
    injection h1 with h1
    subst h1
    unfold opensT
    rw [List.map_replicate]
    exact h2)
  have HBM := Lib.hid hbM
  have CG := Lib.hid (girth_c A (some ⟨w.heap.size, 0, none⟩) c g.length g (opensT g.length) wM HRM.out HSM.out HV.out (opens_len _))
  rw [opens_len] at CG
  clear ownM hbM HRM HSM
  go_wp2_with fail
  refine CG.out.mono ?_
  rintro e w2 ⟨u, rfl, hu, hb⟩
  have HB2 := Lib.hid (HBM.out.trans (hb.mono HBM.out.size))
  have HU := Lib.hid (ownsRow_base hu HBM.out.size)
  clear hu hb CG HBM
  go_wp2
  go_ret
  exact ⟨_, rfl, HU.out, HB2.out⟩
/-- What Tight of the reference returns. -/
def TightPost (g : GraphD) (w : World) (e : Ending) (w' : World) : Prop := Below w.heap.size w w' ∧
  if validG g = true then (if girF g (opensT g.length) = [] then e = .returned (.tuple #[.slice none 0 0, .slice none 0 0, .int .i64 25])
    else ∃ u v, e = .returned (.tuple #[u, v, .int .i64 0]) ∧ w'.ownsRow w.heap.size 3 1 u (girF g (opensT g.length)).length ((girF g (opensT g.length)).map Iv) ∧ w'.ownsRow w.heap.size 3 1 v (girF g (opensT g.length)).length ((rotL (girF g (opensT g.length))).map Iv))
  else e = .returned (.tuple #[.slice none 0 0, .slice none 0 0, .int .i64 20])
set_option maxRecDepth 100000 in
set_option maxHeartbeats 4000000 in
theorem refTight_c (A : Option Addr) (c : Nat) (g : GraphD) (w : World) (hh : RowsAt w A g) (hl : g.length ≤ 1000000000000000000) (hr : ∀ r ∈ g, r.length ≤ 1000000000000000000) :
    Calls Try.prog 25 #[.slice A g.length c] w (TightPost g w) := by
  have CV := Lib.hid (refGValid_c A c g w hh hl hr)
  unfold TightPost
  rcases hv : validG g with _ | _
  · rw [hv] at CV
    clear hh hr hv
    go_enter Try.func25, Try.ntmps25
    go_wp2_with fail
    refine CV.out.mono ?_
    rintro e w1 ⟨rfl, rfl⟩
    go_wp2
    go_ret3
    exact ⟨Below.refl _ _, rfl⟩
  · have CW := Lib.hid (refWalk_c A c g w hh hv)
    have HF : Hid ((girF g (opensT g.length)).length ≤ 24) := Lib.hid (gir_few hv)
    have H2 : Hid (girF g (opensT g.length) ≠ [] → 2 ≤ (girF g (opensT g.length)).length) := Lib.hid (gir_two hv)
    rw [hv] at CV
    clear hh hr hv
    generalize girF g (opensT g.length) = W at *
    go_enter Try.func25, Try.ntmps25
    go_wp2_with fail
    refine CV.out.mono ?_
    rintro e w1 ⟨rfl, rfl⟩
    go_wp2_with fail
    refine CW.out.mono ?_
    rintro e w2 ⟨u, rfl, hu, hb⟩
    have HB2 := Lib.hid hb
    have HU := Lib.hid hu
    clear hu hb CW CV
    obtain ⟨A2, c2, rfl, hc2, hh2⟩ := own_cap HU.out
    have HH2 := Lib.hid hh2
    clear hh2
    by_cases h0 : W = []
    · subst h0
      clear H2
      go_wp2
      go_ret3
      exact ⟨HB2.out, rfl⟩
    · have h2 := H2.out h0
      have h24 := HF.out
      have HN := Lib.hid h0
      obtain ⟨i0, hi, hz0, hz1, hz2⟩ := info_parts Try.infoIntG
      obtain ⟨b, o, rfl, e0⟩ := HH2.out.iv (show 0 < W.length by omega)
      clear h0 H2 HF
      have hWl : ¬ (W.length : Int) = 0 := by omega
      have hc21 : ¬ c2 = 1 := by omega
      have h1W : (1 : Int) ≤ (W.length : Int) := by omega
      have h0W : (0 : Int) < (W.length : Int) := by omega
      have HD : Hid (((W.drop 1).map Iv).length = (W.length - 1) * 1) := Lib.hid (by simp)
      have HNw : Hid (∀ Wx, Below w2.heap.size w2 Wx → ∀ j u, ((W.drop 1).map Iv)[j]? = some u → Wx.cell? ((⟨b, o + 1, none⟩ : Addr).add j) = some u) := Lib.hid (fun Wx hb j u hu => by
        have hh := HH2.out.keep hb
        rw [List.getElem?_map, List.getElem?_drop] at hu
        obtain ⟨x, hx, rfl⟩ := Option.map_eq_some_iff.1 hu
        obtain ⟨hj, rfl⟩ := List.getElem?_eq_some_iff.1 hx
        obtain ⟨b', o', hA, e⟩ := hh.iv hj
        injection hA with hA
        injection hA with q1 q2
        subst q1 q2
        have hadd : (⟨b, o + 1, none⟩ : Addr).add j = ⟨b, o + (1 + j), none⟩ := by unfold Addr.add; split <;> simp_all [Nat.add_assoc]
        rw [hadd]
        exact e)
      have HOne : Hid (∀ u ∈ (W.drop 1).map Iv, u.oneCell' = true) := Lib.hid (fun u hu => by obtain ⟨x, _, rfl⟩ := List.mem_map.1 hu; rfl)
      have hw0 : ∀ Wx, Below w2.heap.size w2 Wx → Wx.cell? ⟨b, o, none⟩ = some (Iv W[0]) := fun Wx hb => (hb.cell (p := ⟨b, o, none⟩) (World.block_lt_of_cell? _ _ e0)).trans e0
      have HW0 := Lib.hid hw0
      clear hw0
      have hsz2 := HB2.out.size
      have h0Wn : 0 < W.length := by omega
      have y0 := HW0.out w2.drew (Below.refl _ _).drew
      have HO0 : Hid (∀ (Wx : World) (gg cap : Nat), Wx.ownsRow w2.heap.size 3 1 (.slice (some ⟨gg, 0, none⟩) (0 + (W.length - 1)) cap) (0 + (W.length - 1)) ([] ++ (W.drop 1).map Iv) → Wx.ownsRow w2.heap.size 3 1 (.slice (some ⟨gg, 0, none⟩) (W.length - 1) cap) (W.length - 1) ((W.drop 1).map Iv)) := Lib.hid (fun Wx gg cap h => by rw [Nat.zero_add, List.nil_append] at h; exact h)
      have HNew : Hid (∀ (Wx : World) ob, (Wx.alloc ob).heap[Wx.heap.size]? = some ob) := Lib.hid (fun Wx ob => heap_alloc_new Wx ob)
      have HRot : Hid (rotL W = W.drop 1 ++ [W[0]]) := Lib.hid (by
        unfold rotL
        congr 1
        rcases W with _ | ⟨x, l⟩ <;> simp at h0Wn ⊢)
      generalize W[0] = z0 at *
      go_wp2
      go_region_law (first | (refine step_append_lies _ (by rfl) _ _ _ (by rfl) w2.heap.size 3 i0 (.int .i64 0) 1 8 Try.underlying23 hi hz0 hz1 hz2 rfl (by omega) (.slice none 0 0) 0 [] (by rfl) (World.ownsRow_nil _ _ _ _) ⟨b, o + 1, none⟩ (W.length - 1) (c2 - 1) ((W.drop 1).map Iv) (by rfl) HD.out (HNw.out _ (by repeat (first | assumption | (with_reducible exact Below.refl _ _) | (with_reducible refine Below.drew ?_) | (with_reducible refine Below.alloc ?_ (Nat.le_refl _) _)))) HOne.out (by omega) (by unfold maxLen; omega) (by omega) (by simp) _ rfl ?_; intro gg cap wn1 hown1 hgrow hat hlt; have HO1 := Lib.hid (HO0.out _ _ _ hown1); have hbn : Below w2.heap.size w2 wn1 := (Below.grown (by repeat (first | assumption | (with_reducible exact Below.refl _ _) | (with_reducible refine Below.drew ?_) | (with_reducible refine Below.alloc ?_ (Nat.le_refl _) _))) hgrow (by simp) (fun k hk => by simp [Value.ownBlock] at hk)); have y1 := HW0.out wn1 hbn; have HB1 := Lib.hid hbn; (try (have y2 : wn1.heap[w2.heap.size]? = some (.cells #[Iv z0] 3 (0, 0)) := (hgrow.block w2.heap.size (by simp) (by simp [Value.ownBlock])).trans (HNew.out w2.drew _); have HY2 := Lib.hid y2; clear y2)); clear hbn hown1 hgrow hat hlt) | (refine step_append_lies _ (by rfl) _ _ _ (by rfl) w2.heap.size 3 i0 (.int .i64 0) 1 8 Try.underlying23 hi hz0 hz1 hz2 rfl (by omega) (.slice (some ⟨_, 0, none⟩) (W.length - 1) _) (W.length - 1) ((W.drop 1).map Iv) (by rfl) (HO1.out.alloc _) ⟨_, 0, none⟩ 1 1 [Iv z0] (by rfl) (by rfl) (World.news_of_block (cs := #[Iv z0]) (t := 3) (fr := (0, 0)) (HNew.out _ _)) (by simp [Value.oneCell']) (by omega) (by unfold maxLen; omega) (by omega) (by have := HB1.out.size; simp; omega) _ rfl ?_; intro gg2 cap2 wn2 hown2 hgrow2 hat2 hlt2; have HO2 := Lib.hid hown2; have HG2 := Lib.hid hgrow2; clear hown2 hgrow2 hat2 hlt2) | (refine step_append_lies _ (by rfl) _ _ _ (by rfl) w2.heap.size 3 i0 (.int .i64 0) 1 8 Try.underlying23 hi hz0 hz1 hz2 rfl (by omega) (.slice (some ⟨_, 0, none⟩) (W.length - 1) _) (W.length - 1) ((W.drop 1).map Iv) (by rfl) HO1.out ⟨_, 0, none⟩ 1 1 [Iv z0] (by rfl) (by rfl) (World.news_of_block (cs := #[Iv z0]) (t := 3) (fr := (0, 0)) HY2.out) (by simp [Value.oneCell']) (by omega) (by unfold maxLen; omega) (by omega) (by have := HB1.out.size; simp; omega) _ rfl ?_; intro gg2 cap2 wn2 hown2 hgrow2 hat2 hlt2; have HO2 := Lib.hid hown2; have HG2 := Lib.hid hgrow2; clear hown2 hgrow2 hat2 hlt2))
      all_goals
        have hbs := own_base HO1.out
        have hs1 := HB1.out.size
        have HB3 : Hid (Below w2.heap.size w2 wn2) := Lib.hid (by first | exact (HB1.out.alloc hs1 _).grown HG2.out (by simp; omega) (fun k hk => hbs k hk) | exact HB1.out.grown HG2.out hs1 (fun k hk => hbs k hk))
        have HU3 := Lib.hid (ownsRow_below HU.out HB3.out)
        have HO3 : Hid (wn2.ownsRow w2.heap.size 3 1 (.slice (some ⟨gg2, 0, none⟩) (W.length - 1 + 1) cap2) W.length ((rotL W).map Iv)) := Lib.hid (by
          have h := HO2.out
          rw [HRot.out, List.map_append]
          have e : W.length - 1 + 1 = W.length := by omega
          rw [e] at h ⊢
          exact h)
        have HB4 := Lib.hid (HB2.out.trans (HB3.out.mono hsz2))
        clear HO1 HO2 HG2 HB1 HB3
        go_wp2
        go_ret3
        refine ⟨HB4.out, ?_⟩
        exact ⟨_, _, rfl, HU3.out, ownsRow_base HO3.out hsz2⟩
end Go.Proofs.Ytfgpenekmokdiaa
namespace Go.Proofs.Ytfgpenekmokdiaa
open Go Go.RowKit Fl

theorem run_append_zero {P : Program} (w : World) (t ty e : TypeId) (i : TypeInfo) (ht : P.underlying t = some (.slice e)) (hi : P.info? e = some i) (A X : Option Addr) (n c d : Nat) (hnc : n ≤ c) :
    (Builtin.append_ #[t, t] ty #[.slice A n c, .slice X 0 d]).run P w = .ok (.slice A n c) w := by
  cases A <;> cases X <;> simp [Builtin.append_, run_underlying ht, sizeOf, typeInfo, hi, Builtin.lenOf, hnc, Builtin.firstCells, loadCells, loadCellsFrom, storeCells, Result.andThen]
theorem own_le {w : World} {base n cap : Nat} {e : TypeId} {A : Option Addr} {xs : List Value} (h : w.ownsRow base e 1 (.slice A n cap) n xs) (hn : 0 < n) : n ≤ cap := by
  obtain ⟨_, _, hv, _, h2⟩ := own_at h hn
  injection hv with _ _ h3
  rw [h3]; exact h2
/-- Nothing is appended, as one step of a drawn region. -/
theorem step_append_zero {P : Program} {ops : Array Oper} {o : Oper} {a : Act} {w : World} {K : Act → World → Prop} {Q : Exit → Act → World → Prop} {E : Prop}
    (hg : o.guard = none) (s x : Operand) (t : TypeId) (hop : o.op = Op.call { callee := Callee.builtin Builtin.append, args := #[s, x], argTypes := #[t, t] })
    (e : TypeId) (i : TypeInfo) (h1 : P.underlying t = some (.slice e)) (h2 : P.info? e = some i) (A X : Option Addr) (n c m d : Nat) (hm : m = 0) (hnc : n ≤ c) (hs : a.eval s = .slice A n c) (hx : a.eval x = .slice X m d)
    (hK : K (a.put o.dst (.slice A n c)) w) : if Region.wanted o (yielded ops a.tmps) = true then Oper.wp P o a w K Q else E := by
  have hw : Region.wanted o (yielded ops a.tmps) = true := by simp [Region.wanted, hg]
  rw [if_pos hw]
  subst hm
  have hrun := run_append_zero (P := P) w t o.type e i h1 h2 A X n c d hnc
  unfold Oper.wp
  simp [execOp, hop, resolve, invoke, builtin, hs, hx, hrun, Result.andThen]
  exact hK
def lenS : Value → Nat
  | .slice _ n _ => n
  | _ => 0
/-- What Ring of the reference returns. -/
def RingRes (p : Bool) (R : Option (List Int)) (B : Nat) (e : Ending) (w' : World) : Prop :=
  (p = false ∧ e = .returned (.tuple #[.slice none 0 0, .int .i64 20])) ∨ (p = true ∧ R = none ∧ e = .returned (.tuple #[.slice none 0 0, .int .i64 25])) ∨
  (p = true ∧ ∃ r u, R = some r ∧ e = .returned (.tuple #[u, .int .i64 0]) ∧ w'.ownsRow B 3 1 u r.length (r.map Iv))
theorem ring_bad {R : Option (List Int)} {B : Nat} {w' : World} : RingRes false R B (.returned (.tuple #[.slice none 0 0, .int .i64 20])) w' := .inl ⟨rfl, rfl⟩
theorem ring_none {R : Option (List Int)} {B : Nat} {w' : World} (h : R = none) : RingRes true R B (.returned (.tuple #[.slice none 0 0, .int .i64 25])) w' := .inr (.inl ⟨rfl, h, rfl⟩)
theorem ring_some {R : Option (List Int)} {B : Nat} {w' : World} {r : List Int} {u : Value} (h : R = some r) (ho : w'.ownsRow B 3 1 u r.length (r.map Iv)) : RingRes true R B (.returned (.tuple #[u, .int .i64 0])) w' := .inr (.inr ⟨rfl, r, u, h, rfl, ho⟩)
set_option maxRecDepth 100000 in
set_option maxHeartbeats 4000000 in
theorem refRing0_c (A A1 A2 : Option Addr) (c c1 c2 : Nat) (g : GraphD) (ts ws : List Int) (w : World) (hh : RowsAt w A g) (h1 : Holds w A1 (ts.map Iv)) (h2 : Holds w A2 (ws.map Iv)) (hcap : ts.length ≤ c1) (hl : g.length ≤ 1000000000000000000) (hr : ∀ r ∈ g, r.length ≤ 1000000000000000000) (R : Option (List Int)) (hp : posB g ts ws = false) :
    Calls Try.prog 16 #[.slice A g.length c, .slice A1 ts.length c1, .slice A2 ws.length c2] w fun e w' => Below w.heap.size w w' ∧ RingRes false R w.heap.size e w' := by
  have CV := Lib.hid (pos_c A A1 A2 c c1 c2 g ts ws w hh h1 h2 hcap hl hr)
  rw [hp] at CV
  clear hh h1 h2 hr hp
  go_enter Try.func16, Try.ntmps16
  go_wp2_with fail
  refine CV.out.mono ?_
  rintro e w1 ⟨rfl, n, rfl⟩
  have HB := Lib.hid (below_drewN (Below.refl w.heap.size w) n)
  go_wp2
  go_ret2
  exact ⟨HB.out, ring_bad⟩
set_option maxRecDepth 100000 in
set_option maxHeartbeats 4000000 in
theorem refRing1_c (A A1 A2 : Option Addr) (c c1 c2 : Nat) (g : GraphD) (ws : List Int) (w : World) (hh : RowsAt w A g) (h1 : Holds w A1 (([] : List Int).map Iv)) (h2 : Holds w A2 (ws.map Iv)) (hl : g.length ≤ 1000000000000000000) (hr : ∀ r ∈ g, r.length ≤ 1000000000000000000) (R : Option (List Int)) (hR : R = none) (hp : posB g [] ws = true) :
    Calls Try.prog 16 #[.slice A g.length c, .slice A1 0 c1, .slice A2 ws.length c2] w fun e w' => Below w.heap.size w w' ∧ RingRes true R w.heap.size e w' := by
  have CV := Lib.hid (pos_c A A1 A2 c c1 c2 g [] ws w hh h1 h2 (Nat.zero_le _) hl hr)
  rw [hp] at CV
  have CV : Hid (Calls Try.prog 18 #[.slice A g.length c, .slice A1 0 c1, .slice A2 ws.length c2] w fun e w' => e = .returned (.bool true) ∧ ∃ n, w' = w.drewN n) := Lib.hid CV.out
  clear hh h1 h2 hr hp
  go_enter Try.func16, Try.ntmps16
  go_wp2_with fail
  refine CV.out.mono ?_
  rintro e w1 ⟨rfl, n, rfl⟩
  have HB := Lib.hid (below_drewN (Below.refl w.heap.size w) n)
  go_wp2
  go_ret2
  exact ⟨HB.out, ring_none hR⟩
end Go.Proofs.Ytfgpenekmokdiaa
namespace Go.Proofs.Ytfgpenekmokdiaa
open Go Go.RowKit Fl

set_option maxRecDepth 100000 in
set_option maxHeartbeats 4000000 in
theorem grow_c (n : Nat) (hn : n ≤ 100000) (w : World) : Calls Try.prog 67 #[.slice none 0 0, .int .i64 n] w fun e w' => ∃ u, e = .returned u ∧ w'.ownsRow w.heap.size 3 1 u 0 [] ∧ Below w.heap.size w w' := by
  obtain ⟨i0, hi, hz0, hz1, hz2⟩ := info_parts Try.infoIntG
  rcases Nat.eq_zero_or_pos n with rfl | h0
  · have HB := Lib.hid (Below.refl w.heap.size w)
    go_enter Try.func67, Try.ntmps67
    go_wp2
    go_ret
    exact ⟨_, rfl, World.ownsRow_nil _ _ _ _, HB.out⟩
  · have hrz : ∀ ty, (Builtin.append_ #[23, 3] ty #[.slice none 0 0, .int .i64 (n : Int)]).run Try.prog w = _ := fun ty => Lib.run_append_nil_zeros (P := Try.prog) w 23 3 ty 3 i0 (.int .i64 0) .i64 .i64 Try.underlying23 Try.underlying3 hi hz0 n h0 (by rw [hz1]; decide) (by omega) (by rw [hz2]; omega)
    have hcap := grownCap_ge w n 0 3
    have hmax := grownCap_le_maxLen w n 0 3 (by unfold maxLen; omega)
    have HM := Lib.hid (World.ownsRow_made (e := 3) (size := 1) (base := w.heap.size) w.drew (Builtin.zeroCells (Value.int .i64 0).cells n ++ Builtin.zeroCells (Value.int .i64 0).cells (grownCap w n 0 3 - n)) (grownCap w n 0 3) (Nat.le_refl _) hmax (by
      have hz : ∀ k, (Builtin.zeroCells (Value.int .i64 0).cells k).size = k := fun k => by simp [Builtin.zeroCells, Value.cells]
      rw [Array.size_append, hz, hz]; omega))
    have HB := Lib.hid ((Below.refl w.heap.size w).drew.alloc (Nat.le_refl _) (.cells (Builtin.zeroCells (Value.int .i64 0).cells n ++ Builtin.zeroCells (Value.int .i64 0).cells (grownCap w n 0 3 - n)) 3))
    obtain ⟨G, hG⟩ : ∃ G, G = grownCap w n 0 3 := ⟨_, rfl⟩
    rw [← hG] at hrz HM HB hcap hmax
    have hG63 : G ≤ 9223372036854775807 := by unfold maxLen at hmax; omega
    clear hG hi hz0 hz1 hz2 hmax
    go_enter Try.func67, Try.ntmps67
    go_wp2_with (at_builtin; refine Lib.wpList_append_run _ rfl _ _ _ _ rfl _ _ rfl rfl _ _ (hrz _) ?_)
    all_goals
      go_ret
      exact ⟨_, rfl, HM.out, HB.out⟩
/-- The first k rows, one behind the other. -/
def catK (g : GraphD) (k : Nat) : List Int := (g.take k).flatten
theorem catK_zero (g : GraphD) : catK g 0 = [] := by simp [catK]
theorem catK_end (g : GraphD) : catK g g.length = g.flatten := by unfold catK; rw [List.take_length]
theorem catK_succ {g : GraphD} {k : Nat} (h : k < g.length) : catK g (k + 1) = catK g k ++ g[k] := by
  unfold catK
  rw [List.take_succ_eq_append_getElem h, List.flatten_append]; simp
theorem catK_len {g : GraphD} (hr : ∀ r ∈ g, r.length ≤ 100) : ∀ k, k ≤ g.length → (catK g k).length ≤ 100 * k
  | 0, _ => by simp [catK]
  | k + 1, h => by
    rw [catK_succ h, List.length_append]
    have := catK_len hr k (by omega)
    have := hr _ (List.getElem_mem (show k < g.length from h))
    omega
set_option maxRecDepth 100000 in
set_option maxHeartbeats 4000000 in
theorem concat_c (A : Option Addr) (c : Nat) (g : GraphD) (w : World) (hh : RowsAt w A g) (hl : g.length ≤ 100) (hr : ∀ r ∈ g, r.length ≤ 100) :
    Calls Try.prog 49 #[.slice A g.length c] w fun e w' => ∃ u, e = .returned u ∧ w'.ownsRow w.heap.size 3 1 u g.flatten.length (g.flatten.map Iv) ∧ Below w.heap.size w w' := by
  have HG := Lib.hid hh
  have HR := Lib.hid hr
  have HL := Lib.hid (fun k hk => catK_len hr k hk)
  have HF := Lib.hid (fun k (hk : k < g.length) => catK_succ hk)
  have HE := Lib.hid (catK_end g)
  obtain ⟨i0, hi, hz0, hz1, hz2⟩ := info_parts Try.infoIntG
  clear hh hr
  go_enter Try.func49, Try.ntmps49
  go_wp2
  go_loop [3, 11] (fun s i => ∃ k : Nat, i = .int .i64 k ∧ k ≤ g.length ∧ ∃ n : Nat, s = .int .i64 n ∧ Hid (n = (catK g k).length)) (fun _ i => g.length - (intOf i).toNat)
  case atStart => exact ⟨0, rfl, Nat.zero_le _, 0, rfl, Lib.hid (by rw [catK_zero]; rfl)⟩
  case round =>
    obtain ⟨k, rfl, hk, n, rfl, HN⟩ := hrel
    have hn := HL.out k hk
    rw [← HN.out] at hn
    by_cases hlt : k < g.length
    · obtain ⟨b, o, A1, c1, rfl, e1, _⟩ := HG.out.one hlt
      have hrl := HR.out _ (List.getElem_mem hlt)
      have HN2 : Hid (n + g[k].length = (catK g (k + 1)).length) := Lib.hid (by rw [HF.out k hlt, List.length_append, HN.out])
      clear HN
      generalize g[k].length = m at *
      go_wp2
      go_round
      case rel => exact ⟨k + 1, by go_num, by omega, n + m, by go_num, HN2⟩
      case measure => simp [intOf]; omega
    · obtain rfl : k = g.length := by omega
      have CG := Lib.hid (grow_c n (by omega) w)
      go_wp2_with fail
      refine CG.out.mono ?_
      rintro e w1 ⟨u, rfl, own1, hb1⟩
      have HO : Hid (w1.ownsRow w.heap.size 3 1 u (catK g 0).length ((catK g 0).map Iv)) := Lib.hid (by rw [catK_zero]; exact own1)
      have HB := Lib.hid hb1
      clear own1 hb1 CG HN
      go_wp2
      go_loopw [6, 27] (fun v i wr => ∃ k : Nat, i = .int .i64 k ∧ k ≤ g.length ∧ Hid (wr.ownsRow w.heap.size 3 1 v (catK g k).length ((catK g k).map Iv)) ∧ Hid (Below w.heap.size w wr)) (fun _ i _ => g.length - (intOf i).toNat)
      case atStart => exact ⟨0, rfl, Nat.zero_le _, HO, HB⟩
      case round =>
        clear HO HB
        obtain ⟨k, rfl, hk, HO, HB⟩ := hrel
        by_cases hlt : k < g.length
        · obtain ⟨b, o, A1, c1, rfl, e1, h1⟩ := (HG.out.keep HB.out).one hlt
          have hrl := HR.out _ (List.getElem_mem hlt)
          have hfl := HL.out k hk
          have HF1 := Lib.hid (HF.out k hlt)
          have H1 := Lib.hid h1
          obtain ⟨A8, c8, rfl, hc8, _⟩ := own_cap HO.out
          have hb := own_base HO.out
          have hsz := HB.out.size
          clear h1
          generalize g[k] = r at *
          by_cases hr0 : r = []
          · have HO2 : Hid (wr.ownsRow w.heap.size 3 1 (.slice A8 (catK g k).length c8) (catK g (k + 1)).length ((catK g (k + 1)).map Iv)) := Lib.hid (by rw [HF1.out, hr0, List.append_nil]; exact HO.out)
            subst hr0
            clear HO HF1
            go_wp2_with (at_builtin; refine Lib.wpList_append_run _ rfl _ _ _ _ rfl _ _ rfl rfl _ _ (run_append_zero _ _ _ _ i0 Try.underlying23 hi _ _ _ _ _ hc8) ?_)
            go_roundw
            case rel => exact ⟨k + 1, by go_num, by omega, HO2, HB⟩
            case measure => simp [intOf]; omega
          · have hrp : 0 < r.length := List.length_pos_iff.2 hr0
            obtain ⟨b1, o1, rfl, _⟩ := H1.out.iv hrp
            have HC : Hid (∀ j u, (r.map Iv)[j]? = some u → wr.cell? ((⟨b1, o1, none⟩ : Addr).add j) = some u) := Lib.hid (fun j u hu => by
              have hj : j < r.length := by have := (List.getElem?_eq_some_iff.1 hu).1; simpa using this
              obtain ⟨b', o', hA, he⟩ := H1.out.iv hj
              injection hA with hA
              injection hA with q1 q2
              subst q1 q2
              have hadd : (⟨b1, o1, none⟩ : Addr).add j = ⟨b1, o1 + j, none⟩ := by simp [Addr.add]
              rw [hadd, he]
              simpa [hj] using hu)
            clear hr0
            go_wp2_with (at_builtin; refine wpList_append_own _ rfl _ _ 23 rfl w.heap.size 3 i0 (.int .i64 0) 1 8 Try.underlying23 hi hz0 hz1 hz2 rfl (by decide) _ _ _ rfl HO.out ⟨b1, o1, none⟩ r.length c1 (r.map Iv) rfl ?qc1 ?qc2 ?qc3 ?qc4 ?qc5 ?qc6 ?_)
            case qc1 => simp
            case qc2 => exact HC.out
            case qc3 => intro u hu; obtain ⟨x, _, rfl⟩ := List.mem_map.1 hu; rfl
            case qc4 => unfold maxLen; omega
            case qc5 => omega
            case qc6 => omega
            intro v' w2 hown hgrow hnil
            have HO2 : Hid (w2.ownsRow w.heap.size 3 1 v' (catK g (k + 1)).length ((catK g (k + 1)).map Iv)) := Lib.hid (by rw [HF1.out, List.length_append, List.map_append]; exact hown)
            have HB2 := Lib.hid (HB.out.grown hgrow hsz (fun k hk => hb k hk))
            clear hown hgrow hnil HO HB HF1 hb
            go_wp2
            go_roundw
            case rel => exact ⟨k + 1, by go_num, by omega, HO2, HB2⟩
            case measure => simp [intOf]; omega
        · obtain rfl : k = g.length := by omega
          have HO2 : Hid (wr.ownsRow w.heap.size 3 1 u6 g.flatten.length (g.flatten.map Iv)) := Lib.hid (by have h := HO.out; rwa [HE.out] at h)
          clear HO
          go_wp2
          go_ret
          exact ⟨_, rfl, HO2.out, HB.out⟩
set_option maxRecDepth 100000 in
set_option maxHeartbeats 4000000 in
/-- The place of the first one that is z. -/
theorem indexAt_c (A : Option Addr) (c p : Nat) (r : List Int) (z : Int) (w : World) (hr : Holds w A (r.map Iv)) (hl : r.length ≤ 1000) (hp : p < r.length) (he : r[p] = z) (hb : ∀ j (h : j < r.length), j < p → r[j] ≠ z) :
    Calls Try.prog 61 #[.slice A r.length c, .int .i64 z] w fun e w' => e = .returned (.int .i64 p) ∧ w' = w := by
  have HR := Lib.hid hr
  have HE := Lib.hid he
  have HB := Lib.hid hb
  clear hr he hb
  go_enter Try.func61, Try.ntmps61
  go_wp2
  go_loop [8] (fun i => ∃ j : Nat, i = .int .i64 j ∧ j ≤ p) (fun i => r.length - (intOf i).toNat)
  case atStart => exact ⟨0, rfl, Nat.zero_le _⟩
  case round =>
    obtain ⟨j, rfl, hj⟩ := hrel
    have hjt : j < r.length := by omega
    obtain ⟨b, o, rfl, e1⟩ := HR.out.iv hjt
    rcases Nat.lt_or_ge j p with h1 | h1
    · have hne := HB.out j hjt h1
      have h1 : (z == r[j]) = false := by rw [beq_eq_false_iff_ne]; exact fun e => hne e.symm
      have h2 : ¬ z = r[j] := fun e => hne e.symm
      clear hne
      generalize r[j] = y at *
      go_wp2
      go_round
      case rel => exact ⟨j + 1, by go_num, by omega⟩
      case measure => simp [intOf]; omega
    · obtain rfl : j = p := by omega
      rw [HE.out] at e1
      go_wp2
      go_ret
      exact ⟨rfl, rfl⟩
theorem holds_behind {w : World} {b o : Nat} {xs : List Int} (h : Holds w (some ⟨b, o, none⟩) (xs.map Iv)) (m : Nat) : Holds w (some ⟨b, o + m, none⟩) ((xs.drop m).map Iv) := by
  rcases h with h | ⟨b', o', hA, hb, hc⟩
  · left
    have : xs = [] := by simpa using h
    subst this; simp
  · right
    injection hA with hA
    injection hA with q1 q2
    subst q1 q2
    refine ⟨b, o + m, rfl, hb, fun j hj => ?_⟩
    have hj' : m + j < (xs.map Iv).length := by simp at hj ⊢; omega
    rw [Nat.add_assoc, hc (m + j) hj']
    simp
theorem holds_ahead {w : World} {A : Option Addr} {xs : List Int} (h : Holds w A (xs.map Iv)) (m : Nat) : Holds w A ((xs.take m).map Iv) := by
  rw [List.map_take]
  exact holds_front h m
theorem rows2_at {W : World} {P c1 c2 : Nat} {A1 A2 : Option Addr} {r1 r2 : List Int} {n1 n2 : Nat} {e : TypeId} (hP : W.heap[P]? = some (.cells #[.slice A1 n1 c1, .slice A2 n2 c2] e (0, 0))) (e1 : n1 = r1.length) (e2 : n2 = r2.length) (h1 : Holds W A1 (r1.map Iv)) (h2 : Holds W A2 (r2.map Iv)) : RowsAt W (some ⟨P, 0, none⟩) [r1, r2] := by
  subst e1 e2
  refine .inr ⟨P, 0, rfl, block_lt hP, fun k hk => ?_⟩
  have hk2 : k < 2 := hk
  match k, hk2 with
  | 0, _ => exact ⟨_, c1, by rw [cell_of_row W _ _ _ e _ hP]; rfl, h1⟩
  | 1, _ => exact ⟨_, c2, by rw [cell_of_row W _ _ _ e _ hP]; rfl, h2⟩
/-- Two lists, one behind the other, in whatever world they lie. -/
theorem concat2_c {w W : World} {P c1 c2 n1 n2 : Nat} {A1 A2 : Option Addr} {r1 r2 : List Int} {e : TypeId} (hP : W.heap[P]? = some (.cells #[.slice A1 n1 c1, .slice A2 n2 c2] e (0, 0))) (hb : Below w.heap.size w W) (e1 : n1 = r1.length) (e2 : n2 = r2.length) (h1 : Holds w A1 (r1.map Iv)) (h2 : Holds w A2 (r2.map Iv)) (l1 : n1 ≤ 100) (l2 : n2 ≤ 100) :
    Calls Try.prog 49 #[.slice (some ⟨P, 0, none⟩) 2 2] W fun e w' => ∃ u, e = .returned u ∧ w'.ownsRow w.heap.size 3 1 u (n1 + n2) ((r1 ++ r2).map Iv) ∧ Below w.heap.size w w' := by
  have h := concat_c (some ⟨P, 0, none⟩) 2 [r1, r2] W (rows2_at hP e1 e2 (h1.keep hb) (h2.keep hb)) (by simp) (by simp; omega)
  refine h.mono ?_
  rintro e w' ⟨u, rfl, ho, hb2⟩
  refine ⟨u, rfl, ?_, hb.trans (hb2.mono hb.size)⟩
  have h3 := ownsRow_base ho hb.size
  have e3 : [r1, r2].flatten = r1 ++ r2 := by simp
  rw [e3] at h3
  rw [e1, e2, ← List.length_append]
  exact h3
set_option maxRecDepth 100000 in
set_option maxHeartbeats 4000000 in
/-- The list from its element first on, turned. -/
theorem beginWith_c (A : Option Addr) (c p : Nat) (l : List Int) (z : Int) (w : World) (hr : Holds w A (l.map Iv)) (hc : l.length ≤ c) (hl : l.length ≤ 100) (hp : p < l.length) (he : l[p] = z) (hb : ∀ j (h : j < l.length), j < p → l[j] ≠ z) :
    Calls Try.prog 38 #[.slice A l.length c, .int .i64 z] w fun e w' => ∃ u, e = .returned u ∧ w'.ownsRow w.heap.size 3 1 u l.length ((l.drop p ++ l.take p).map Iv) ∧ Below w.heap.size w w' := by
  have CI := Lib.hid (indexAt_c A c p l z w hr (by omega) hp he hb)
  obtain ⟨b, o, rfl, _⟩ := hr.iv hp
  have hcp : ¬ c = p := by omega
  have hlt : ¬ c < p := by omega
  have CC : Hid (∀ W : World, W.heap[w.heap.size]? = some (.cells #[.slice (some ⟨b, o + p, none⟩) (l.length - p) (c - p), .slice (some ⟨b, o, none⟩) p c] 23 (0, 0)) → Below w.heap.size w W → Calls Try.prog 49 #[.slice (some ⟨w.heap.size, 0, none⟩) 2 2] W fun e w' => ∃ u, e = .returned u ∧ w'.ownsRow w.heap.size 3 1 u l.length ((l.drop p ++ l.take p).map Iv) ∧ Below w.heap.size w w') := Lib.hid (fun W hP hW => by
    have h := concat2_c hP hW (r1 := l.drop p) (r2 := l.take p) (by simp) (by simp; omega) (holds_behind hr p) (holds_ahead hr p) (by omega) (by omega)
    rwa [show l.length - p + p = l.length by omega] at h)
  have HA : Hid (∀ o : Obj, Below w.heap.size w ((w.alloc o).drew) ∧ Below w.heap.size w (w.drew.alloc o) ∧ Below w.heap.size w (w.alloc o)) := Lib.hid (fun o => ⟨((Below.refl _ w).alloc (Nat.le_refl _) o).drew, (Below.refl _ w).drew.alloc (Nat.le_refl _) o, (Below.refl _ w).alloc (Nat.le_refl _) o⟩)
  clear hr he hb
  go_enter Try.func38, Try.ntmps38
  go_wp2_with fail
  refine CI.out.mono ?_
  rintro e w1 ⟨rfl, rfl⟩
  clear CI
  go_upto_region 2 with fail
  go_region_with (go_at_call 49; refine (CC.out _ (by first | exact heap_alloc_new _ _) (by first | exact (HA.out _).1 | exact (HA.out _).2.1 | exact (HA.out _).2.2)).mono ?_; rintro e w2 ⟨u, rfl, hu, hb2⟩)
  all_goals
    go_wp2
    go_ret
    exact ⟨_, rfl, hu, hb2⟩
end Go.Proofs.Ytfgpenekmokdiaa
