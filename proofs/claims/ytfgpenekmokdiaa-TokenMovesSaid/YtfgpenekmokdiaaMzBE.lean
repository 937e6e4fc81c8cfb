/- Joined texts. -/
import Derived.Test.YtfgpenekmokdiaaMzAR
import Derived.Test.YtfgpenekmokdiaaMzAS
import Derived.Test.YtfgpenekmokdiaaMzBD
import Derived.Test.YtfgpenekmokdiaaMzAQ
import Derived.Test.YtfgpenekmokdiaaMzAF
import Derived.Test.YtfgpenekmokdiaaMzAH
import Derived.Test.YtfgpenekmokdiaaMzAP
import Derived.Test.YtfgpenekmokdiaaMzAT
import Derived.Test.YtfgpenekmokdiaaMzAZ
import Derived.Lib.Slices
namespace Go.Proofs.Ytfgpenekmokdiaa
open Go Go.RowKit Fl

def gK : GraphD := [[1], [2], [0]]
theorem gK_valid : validG gK = true := by decide
theorem gK_pos : posB gK [0, 1] [1, 2] = true := by decide
theorem gK_free : freeL [0, 1] [1, 2] 2 = [1] := by decide
theorem gK_stuck : stuckB gK [0, 1, 2] [1, 2, 0] = true := by decide
theorem gK_near : nearP gK 0 = 0 := by kernel_rfl
theorem gK_fill : fillM gK 0 = [⟨0, -1, 0⟩, ⟨0, 0, 1⟩, ⟨0, 1, 2⟩, ⟨1, -1, 0⟩, ⟨1, 0, 1⟩, ⟨2, -1, 0⟩] := by kernel_rfl
theorem gK_play : playL gK [] (fillM gK 0) = some [2, 1, 0] := by rw [gK_fill]; kernel_rfl
theorem gK_sized : Sized gK := Sized.valid gK_valid
theorem free_k (A A1 A2 : Option Addr) (c c1 c2 : Nat) (W : World) (hr : RowsAt W A gK) (h1 : Holds W A1 ([(0 : Int), 1].map Iv)) (h2 : Holds W A2 ([(1 : Int), 2].map Iv)) :
    Calls Try.prog 13 #[.slice A 3 c, .slice A1 2 c1, .slice A2 2 c2] W fun e w' => ∃ X cx, e = .returned (.tuple #[.slice X 1 cx, .int .i64 0]) ∧ Holds w' X ([(1 : Int)].map Iv) ∧ Below W.heap.size W w' := by
  refine (devFree_c A A1 A2 c c1 c2 gK [0, 1] [1, 2] W hr h1 h2 gK_sized).mono ?_
  rintro e w' ⟨hb, he⟩
  rw [if_pos gK_pos] at he
  obtain ⟨u, rfl, hu⟩ := he
  rw [show ([0, 1] : List Int).length = 2 from rfl, gK_free] at hu
  obtain ⟨X, cx, rfl, hx⟩ := own_is hu
  exact ⟨X, cx, rfl, hx, hb⟩
theorem fill_k (A : Option Addr) (c : Nat) (W : World) (hr : RowsAt W A gK) :
    Calls Try.prog 26 #[.slice A 3 c, .int .i64 0] W fun e w' => ∃ q cx, e = .returned (.tuple #[.slice (some ⟨q, 0, none⟩) 6 cx, .int .i64 0]) ∧ Holds w' (some ⟨q, 0, none⟩) (moveCells (fillM gK 0)) ∧ Below W.heap.size W w' := by
  refine (devFill_c A c 0 gK W hr gK_sized).mono ?_
  rintro e w' ⟨hb, he⟩
  rcases he with ⟨h, _⟩ | ⟨_, h, _⟩ | ⟨_, _, h, _⟩ | ⟨_, _, _, u, rfl, hu⟩
  · rw [gK_valid] at h; cases h
  · exact absurd ⟨Int.le_refl _, by decide⟩ h
  · rw [show (0 : Int).toNat = 0 from rfl, gK_near] at h; cases h
  · rw [show (0 : Int).toNat = 0 from rfl] at hu
    have hl : (fillM gK 0).length = 6 := by rw [gK_fill]; rfl
    rw [hl] at hu
    obtain ⟨_, hr⟩ := hu
    rcases hr with ⟨_, h0⟩ | ⟨q, cap, cur, rfl, hq, hh, hnc, hcm, hcs, hx⟩
    · cases h0
    · refine ⟨q, cap, rfl, .inr ⟨q, 0, rfl, block_lt hh, fun j hj => ?_⟩, hb⟩
      rw [Nat.zero_add, cell_of_row w' q j _ _ _ hh]
      have h2 := congrArg (fun l => l[j]?) hx
      simp only [List.getElem?_eq_getElem hj] at h2
      rw [List.getElem?_take] at h2
      have hm := moveCells_length (fillM gK 0)
      rw [hl] at hm
      rw [if_pos (by omega)] at h2
      simpa using h2
theorem replay_k (A A1 : Option Addr) (c c1 : Nat) (W : World) (hr : RowsAt W A gK) (h1 : Holds W A1 (moveCells (fillM gK 0))) :
    Calls Try.prog 27 #[.slice A 3 c, .slice A1 6 c1] W fun e w' => ∃ X cx, e = .returned (.tuple #[.slice X 3 cx, .int .i64 0]) ∧ Holds w' X ([(2 : Int), 1, 0].map Iv) ∧ Below W.heap.size W w' := by
  have hl : (fillM gK 0).length = 6 := by rw [gK_fill]; rfl
  have h := devReplayT_c A A1 c c1 gK (fillM gK 0) [2, 1, 0] W hr gK_valid h1 (by rw [hl]; decide) gK_play
  rw [hl] at h
  refine h.mono ?_
  rintro e w' ⟨⟨u, rfl, hu⟩, hb⟩
  obtain ⟨X, cx, rfl, hx⟩ := own_is hu
  exact ⟨X, cx, rfl, hx, hb⟩
theorem stuck_k (A A1 A2 : Option Addr) (c c1 c2 : Nat) (W : World) (hr : RowsAt W A gK) (h1 : Holds W A1 ([(0 : Int), 1, 2].map Iv)) (h2 : Holds W A2 ([(1 : Int), 2, 0].map Iv)) :
    Calls Try.prog 19 #[.slice A 3 c, .slice A1 3 c1, .slice A2 3 c2] W fun e w' => e = .returned (.bool true) ∧ Below W.heap.size W w' := by
  have h := devStuck_c A A1 A2 c c1 c2 gK [0, 1, 2] [1, 2, 0] W hr h1 h2 gK_sized
  rw [gK_stuck] at h
  exact h
theorem two_lits (w : World) (n1 n2 : Nat) (c1 c2 : Array Value) (e1 e2 : TypeId) (l1 l2 : List Value) (h1 : n1 = w.heap.size) (h2 : n2 = w.heap.size + 1) (e3 : c1.toList = l1) (e4 : c2.toList = l2) :
    Holds ((w.alloc (.cells c1 e1)).alloc (.cells c2 e2)) (some ⟨n1, 0, none⟩) l1 ∧ Holds ((w.alloc (.cells c1 e1)).alloc (.cells c2 e2)) (some ⟨n2, 0, none⟩) l2 ∧ Below w.heap.size w ((w.alloc (.cells c1 e1)).alloc (.cells c2 e2)) :=
  ⟨(lit_holds w n1 c1 e1 l1 h1 e3).keep (below_alloc _ _), lit_holds (w.alloc (.cells c1 e1)) n2 c2 e2 l2 (by simp [h2]) e4, (below_alloc w _).trans ((below_alloc _ _).mono (by simp))⟩
set_option maxRecDepth 100000 in
set_option maxHeartbeats 8000000 in
theorem known12_c (w : World) : Calls Try.prog 10 #[] w fun e w' => e = .returned (.bool true) ∧ Below w.heap.size w w' := by
  go_enter Try.func10, Try.ntmps10
  go_wp2_with fail
  have HR1 := Lib.hid (rows3 w w.heap.size #[.int .i64 1] #[.int .i64 2] #[.int .i64 0] [1] [2] [0] 1 1 1 3 3 3 23 rfl rfl rfl rfl rfl rfl rfl)
  have HW1 := Lib.hid (below_alloc4 w (.cells #[.int .i64 1] 3) (.cells #[.int .i64 2] 3) (.cells #[.int .i64 0] 3) (.cells #[.slice (some ⟨w.heap.size, 0, none⟩) 1 1, .slice (some ⟨w.heap.size + 1, 0, none⟩) 1 1, .slice (some ⟨w.heap.size + 1 + 1, 0, none⟩) 1 1] 23))
  have hs4 : ((((w.alloc (.cells #[.int .i64 1] 3)).alloc (.cells #[.int .i64 2] 3)).alloc (.cells #[.int .i64 0] 3)).alloc (.cells #[.slice (some ⟨w.heap.size, 0, none⟩) 1 1, .slice (some ⟨w.heap.size + 1, 0, none⟩) 1 1, .slice (some ⟨w.heap.size + 1 + 1, 0, none⟩) 1 1] 23)).heap.size = w.heap.size + 1 + 1 + 1 + 1 := by simp
  generalize (((w.alloc (.cells #[.int .i64 1] 3)).alloc (.cells #[.int .i64 2] 3)).alloc (.cells #[.int .i64 0] 3)).alloc (.cells #[.slice (some ⟨w.heap.size, 0, none⟩) 1 1, .slice (some ⟨w.heap.size + 1, 0, none⟩) 1 1, .slice (some ⟨w.heap.size + 1 + 1, 0, none⟩) 1 1] 23) = w4 at *
  obtain ⟨h1, h2, hb4⟩ := two_lits w4 (w.heap.size + 1 + 1 + 1 + 1) (w.heap.size + 1 + 1 + 1 + 1 + 1) #[.int .i64 0, .int .i64 1] #[.int .i64 1, .int .i64 2] 3 3 ([(0 : Int), 1].map Iv) ([(1 : Int), 2].map Iv) hs4.symm (by rw [hs4]) rfl rfl
  refine (free_k _ _ _ 3 2 2 _ (HR1.out.keep hb4) h1 h2).mono ?_
  rintro e w5 ⟨X, cx, rfl, hx, hb5⟩
  have hb45 := hb4.trans (hb5.mono hb4.size)
  have HR5 := Lib.hid (HR1.out.keep hb45)
  have HB5 := Lib.hid (HW1.out.trans (hb45.mono HW1.out.size))
  have HX5 := Lib.hid hx
  clear h1 h2 hb4 hb5 hb45 hx HR1 HW1 hs4
  go_wp2_with fail
  refine (fill_k _ 3 _ HR5.out).mono ?_
  rintro e w6 ⟨q, cq, rfl, hm, hb6⟩
  have HR6 := Lib.hid (HR5.out.keep hb6)
  have HB6 := Lib.hid (HB5.out.trans (hb6.mono HB5.out.size))
  have HX6 := Lib.hid (HX5.out.keep hb6)
  have HM6 := Lib.hid hm
  clear hb6 hm HR5 HB5 HX5
  clear w4 w5
  go_wp2_with fail
  refine (replay_k _ _ 3 cq _ HR6.out HM6.out).mono ?_
  rintro e w7 ⟨Y, cy, rfl, hy, hb7⟩
  have HR7 := Lib.hid (HR6.out.keep hb7)
  have HB7 := Lib.hid (HB6.out.trans (hb7.mono HB6.out.size))
  have HX7 := Lib.hid (HX6.out.keep hb7)
  have HM7 := Lib.hid (HM6.out.keep hb7)
  have HY7 := Lib.hid hy
  clear hb7 hy HR6 HB6 HX6 HM6
  clear w6
  go_wp2_with fail
  refine (sameIntsE_c X (some ⟨w7.heap.size, 0, none⟩) cx 1 [1] _ (HX7.out.keep (below_alloc _ _)) (lit_holds _ _ #[.int .i64 1] _ _ rfl rfl) (by decide)).mono ?_
  rintro e w8 ⟨rfl, n8, rfl⟩
  have hb8 := below_drewN (below_alloc w7 (.cells #[.int .i64 1] 3)) n8
  have HR8 := Lib.hid (HR7.out.keep hb8)
  have HB8 := Lib.hid (HB7.out.trans (hb8.mono HB7.out.size))
  have HM8 := Lib.hid (HM7.out.keep hb8)
  have HY8 := Lib.hid (HY7.out.keep hb8)
  clear hb8 HR7 HB7 HX7 HM7 HY7
  generalize (w7.alloc (.cells #[.int .i64 1] 3)).drewN n8 = w8 at *
  have hl6 : (fillM gK 0).length = 6 := by rw [gK_fill]; rfl
  have hml := moveCells_length (fillM gK 0)
  rw [hl6] at hml
  obtain ⟨_, _, hA, _, hc⟩ := HM8.out.at_ (by rw [hml]; decide)
  injection hA with hA
  injection hA with q1 q2
  subst q1 q2
  have e3 : w8.cell? ⟨q, 3, none⟩ = some (.int .i64 0) := by
    have h := hc 3 (by rw [hml]; decide)
    rw [Nat.zero_add] at h
    rw [h]
    have h2 : (moveCells (fillM gK 0))[3]? = some (Iv 0) := by rw [gK_fill]; rfl
    rwa [List.getElem?_eq_getElem (by rw [hml]; decide)] at h2
  have e4 : w8.cell? ⟨q, 4, none⟩ = some (.int .i64 0) := by
    have h := hc 4 (by rw [hml]; decide)
    rw [Nat.zero_add] at h
    rw [h]
    have h2 : (moveCells (fillM gK 0))[4]? = some (Iv 0) := by rw [gK_fill]; rfl
    rwa [List.getElem?_eq_getElem (by rw [hml]; decide)] at h2
  have e5 : w8.cell? ⟨q, 5, none⟩ = some (.int .i64 1) := by
    have h := hc 5 (by rw [hml]; decide)
    rw [Nat.zero_add] at h
    rw [h]
    have h2 : (moveCells (fillM gK 0))[5]? = some (Iv 1) := by rw [gK_fill]; rfl
    rwa [List.getElem?_eq_getElem (by rw [hml]; decide)] at h2
  clear hc hml hl6 HM8
  go_wp2_with fail
  refine (sameIntsE_c Y (some ⟨w8.heap.size, 0, none⟩) cy 3 [2, 1, 0] _ (HY8.out.keep (below_alloc _ _)) (lit_holds _ _ #[.int .i64 2, .int .i64 1, .int .i64 0] _ _ rfl rfl) (by decide)).mono ?_
  rintro e w9 ⟨rfl, n9, rfl⟩
  have hb9 := below_drewN (below_alloc w8 (.cells #[.int .i64 2, .int .i64 1, .int .i64 0] 3)) n9
  have HR9 := Lib.hid (HR8.out.keep hb9)
  have HB9 := Lib.hid (HB8.out.trans (hb9.mono HB8.out.size))
  clear hb9 HR8 HB8 HY8 e3 e4 e5
  generalize (w8.alloc (.cells #[.int .i64 2, .int .i64 1, .int .i64 0] 3)).drewN n9 = w9 at *
  go_wp2_with fail
  obtain ⟨h1, h2, hb10⟩ := two_lits w9 w9.heap.size (w9.heap.size + 1) #[.int .i64 0, .int .i64 1, .int .i64 2] #[.int .i64 1, .int .i64 2, .int .i64 0] 3 3 ([(0 : Int), 1, 2].map Iv) ([(1 : Int), 2, 0].map Iv) rfl rfl rfl rfl
  refine (stuck_k _ _ _ 3 3 3 _ (HR9.out.keep hb10) h1 h2).mono ?_
  rintro e w11 ⟨rfl, hb11⟩
  have HB11 := Lib.hid (HB9.out.trans ((hb10.trans (hb11.mono hb10.size)).mono HB9.out.size))
  clear h1 h2 hb10 hb11 HR9 HB9
  go_wp2
  go_ret
  exact ⟨rfl, HB11.out⟩
end Go.Proofs.Ytfgpenekmokdiaa
namespace Go.Proofs.Ytfgpenekmokdiaa.Fl

/-- Where the wants lead to from token 0 on. -/
def orbT (ts ws : List Int) : Nat → Int
  | 0 => 0
  | k + 1 => stepT ts ws (orbT ts ws k)
theorem PosOk.can {g : GraphD} {ts ws : List Int} (h : PosOk g ts ws) {t : Int} (h0 : 0 ≤ t) (ht : t < ts.length) : canT ts ws t ↔ 0 ≤ stepT ts ws t := by
  refine ⟨fun hc => hc.rng.1, fun hs => ?_⟩
  obtain ⟨i, rfl⟩ := Int.eq_ofNat_of_zero_le h0
  have hi : i < ws.length := by have := h.len; omega
  unfold canT
  unfold stepT at hs
  rw [atI_get hi] at hs ⊢
  rcases h.wantAt hi with h1 | ⟨v, h1, _⟩
  · rw [h1, h.minus] at hs; omega
  · rw [h1] at hs ⊢; omega
theorem step_lt {ts ws : List Int} {t : Int} : stepT ts ws t = -1 ∨ 0 ≤ stepT ts ws t ∧ stepT ts ws t < ts.length := by
  unfold stepT
  rcases onF_cases ts (atI ws t) with ⟨h1, _⟩ | ⟨i, hi, _, h1⟩
  · exact .inl h1
  · right; omega
theorem WayOk.len1 {ts ws way : List Int} {t : Int} (h : WayOk ts ws way t) (ht : t ∉ way) : way.length + 1 ≤ ts.length := by
  have hr : ∀ x ∈ way ++ [t], 0 ≤ x ∧ x < ts.length := fun x hx => by
    rcases List.mem_append.1 hx with hx | hx
    · exact ⟨(h.rng x hx).1, (h.rng x hx).2.1⟩
    · obtain rfl := List.mem_singleton.1 hx
      exact h.tok
  have hn : (way ++ [t]).Nodup := by
    rw [List.nodup_append]
    refine ⟨h.nodup, by simp, fun a ha b hb => ?_⟩
    obtain rfl := List.mem_singleton.1 hb
    exact fun e => ht (e ▸ ha)
  have h1 := nodup_len ts.length ((way ++ [t]).map Int.toNat) (by
    show ((way ++ [t]).map Int.toNat).Pairwise (· ≠ ·)
    rw [List.pairwise_map, List.pairwise_iff_getElem]
    intro i j hi hj hij e
    have a := hr _ (List.getElem_mem hi)
    have b := hr _ (List.getElem_mem hj)
    exact (List.pairwise_iff_getElem.1 hn i j hi hj hij) (by omega)) (fun z hz => by
    obtain ⟨x, hx, rfl⟩ := List.mem_map.1 hz
    have a := hr x hx
    omega)
  rw [List.length_map, List.length_append] at h1
  simpa using h1
theorem ring_orb {g : GraphD} {ts ws : List Int} (h : PosOk g ts ws) : ∀ (f : Nat) (way : List Int) (t : Int), WayOk ts ws way t → t = orbT ts ws way.length → (∀ k, k ≤ way.length → 0 ≤ orbT ts ws k) → ts.length < f + way.length →
    (∃ way' t', ringA ts ws f way t = some (way', t') ∧ WayOk ts ws way' t' ∧ t' ∈ way' ∧ t' = orbT ts ws way'.length ∧ ∀ k, k ≤ way'.length → 0 ≤ orbT ts ws k) ∨
    (ringA ts ws f way t = none ∧ ∃ k, k ≤ ts.length ∧ orbT ts ws k < 0)
  | 0, way, t, hw, _, _, hf => by have := hw.len; omega
  | f + 1, way, t, hw, ht, hk, hf => by
    unfold ringA
    by_cases h1 : t ∈ way
    · exact .inl ⟨way, t, by rw [if_pos h1], hw, h1, ht, hk⟩
    · rw [if_neg h1]
      have hl := hw.len1 h1
      have hn : stepT ts ws t = orbT ts ws (way.length + 1) := by rw [ht]; rfl
      by_cases h2 : canT ts ws t
      · have hla : (way ++ [t]).length = way.length + 1 := by simp
        have ih := ring_orb h f (way ++ [t]) (stepT ts ws t) (hw.more h1 h2) (by rw [hla]; exact hn) (fun k hkk => by
          rw [hla] at hkk
          rcases Nat.lt_or_ge k (way.length + 1) with h3 | h3
          · exact hk k (by omega)
          · rw [show k = way.length + 1 by omega, ← hn]; exact h2.rng.1) (by rw [hla]; omega)
        rw [if_neg h2]
        exact ih
      · right
        have h3 : atI ws t < 0 ∨ onF ts (atI ws t) < 0 := Decidable.of_not_not h2
        refine ⟨by rw [if_pos h3], way.length + 1, hl, ?_⟩
        rw [← hn]
        have h4 : ¬ 0 ≤ stepT ts ws t := fun hs => h2 ((h.can hw.tok.1 hw.tok.2).2 hs)
        omega
theorem RingOk.pre {ts ws a b : List Int} (ha : RingOk ts ws a) (hb : RingOk ts ws b) (h0 : a[0]? = b[0]?) : ∀ k, k < a.length → k < b.length → a[k]? = b[k]?
  | 0, _, _ => h0
  | k + 1, h1, h2 => by
    have ih := ha.pre hb h0 k (by omega) (by omega)
    have e1 := List.getElem?_eq_getElem (show k < a.length by omega)
    have e2 := List.getElem?_eq_getElem h1
    have e3 := List.getElem?_eq_getElem h2
    have n1 := ha.next k _ _ e1 e2
    have n2 := hb.next k _ _ (ih ▸ e1) e3
    rw [e2, e3, ← n1, ← n2]
theorem RingOk.short {ts ws a b : List Int} (ha : RingOk ts ws a) (hb : RingOk ts ws b) (h0 : a[0]? = b[0]?) : b.length ≤ a.length := by
  rcases Nat.lt_or_ge a.length b.length with h | h
  · exfalso
    have hp : 0 < a.length := List.length_pos_iff.2 ha.ne
    have e1 := List.getElem?_eq_getElem (show a.length - 1 < a.length by omega)
    have e0 := List.getElem?_eq_getElem hp
    have n1 := ha.back _ _ e0 e1
    have e2 := (ha.pre hb h0 (a.length - 1) (by omega) (by omega)) ▸ e1
    have e3 := List.getElem?_eq_getElem h
    have n2 := hb.next (a.length - 1) _ _ e2 (by rw [show a.length - 1 + 1 = a.length by omega]; exact e3)
    rw [h0] at e0
    rw [List.getElem?_eq_getElem (show 0 < b.length by omega)] at e0
    injection e0 with e0
    exact (List.pairwise_iff_getElem.1 hb.nodup 0 a.length (by omega) h hp) (by rw [e0, ← n1, n2])
  · exact h
theorem RingOk.uniq {ts ws a b : List Int} (ha : RingOk ts ws a) (hb : RingOk ts ws b) (h0 : a[0]? = b[0]?) : a = b := by
  have l1 := ha.short hb h0
  have l2 := hb.short ha h0.symm
  refine List.ext_getElem (by omega) fun k h1 h2 => ?_
  have := ha.pre hb h0 k h1 h2
  rw [List.getElem?_eq_getElem h1, List.getElem?_eq_getElem h2] at this
  injection this
theorem RingOk.mem_step {ts ws r : List Int} (h : RingOk ts ws r) {x : Int} (hx : x ∈ r) : stepT ts ws x ∈ r := by
  obtain ⟨i, hi, rfl⟩ := List.mem_iff_getElem.1 hx
  rw [h.two hi]
  exact List.getElem_mem _
/-- What the landed code finds behind as many steps as there are tokens. -/
theorem ring_dev {g : GraphD} {ts ws : List Int} (h : PosOk g ts ws) (hp : 0 < ts.length) :
    ((∃ k, k ≤ ts.length ∧ orbT ts ws k < 0) → ringR ts ws = none) ∧
    ((∀ k, k ≤ ts.length → 0 ≤ orbT ts ws k) → ∃ R, RingOk ts ws R ∧ R[0]? = some (orbT ts ws ts.length) ∧ ∀ (i : Nat) (hi : i < R.length), (∀ y ∈ R, R[i] ≤ y) → ringR ts ws = some (R.drop i ++ R.take i)) := by
  have hr : ringR ts ws = (ringA ts ws (ts.length + 1) [] 0).map (fun p => turnL (fromT p.1 p.2)) := by unfold ringR; rw [if_neg (by omega)]
  rcases ring_orb h (ts.length + 1) [] 0 (WayOk.begin hp) rfl (fun k hk => by simp at hk; rw [hk]; exact Int.le_refl _) (by simp) with ⟨way, t, e, hw, hm, ht, hk⟩ | ⟨e, k, hk, hneg⟩
  · have hR := hw.ring hm
    obtain ⟨j0, hj0, eR, e0⟩ := fromT_mem hm
    rw [← eR] at e0
    have hl := hw.len
    have hcl : ∀ j, orbT ts ws (way.length + j) ∈ fromT way t := by
      intro j
      induction j with
      | zero => rw [Nat.add_zero, ← ht]; exact get_mem e0
      | succ j ih => exact hR.mem_step ih
    have hall : ∀ k, 0 ≤ orbT ts ws k := fun k => by
      rcases Nat.lt_or_ge k way.length with h1 | h1
      · exact hk k (by omega)
      · have h2 := hcl (k - way.length)
        rw [show way.length + (k - way.length) = k by omega] at h2
        exact (hR.rng _ h2).1
    refine ⟨fun ⟨k, _, hneg⟩ => by have := hall k; omega, fun _ => ?_⟩
    have hx := hcl (ts.length - way.length)
    rw [show way.length + (ts.length - way.length) = ts.length by omega] at hx
    obtain ⟨j, hj, ej⟩ := List.mem_iff_getElem.1 hx
    have hT := hR.turn j (by omega)
    refine ⟨_, hT, ?_, fun i hi hmin => ?_⟩
    · rw [turn_get _ _ _ (by omega), if_pos (by omega), Nat.add_zero, List.getElem?_eq_getElem hj, ej]
    · have hD := hT.turn i (by omega)
      have hlt := leastK_lt (l := fromT way t) (fromT way t).length
      have hL := hR.turn (leastK (fromT way t) (fromT way t).length) (by omega)
      rw [hr, e]
      simp only [Option.map_some, Option.some.injEq]
      show turnL (fromT way t) = _
      refine hL.uniq hD ?_
      have hfirst := turnL_first hR.nodup
      have hmemT : ∀ y, y ∈ turnL (fromT way t) ↔ y ∈ fromT way t := fun y => by
        unfold turnL
        rw [List.mem_append, or_comm, ← List.mem_append, List.take_append_drop]
      have hmemR : ∀ y, y ∈ (fromT way t).drop j ++ (fromT way t).take j ↔ y ∈ fromT way t := fun y => by
        rw [List.mem_append, or_comm, ← List.mem_append, List.take_append_drop]
      have hlT : 0 < (turnL (fromT way t)).length := by rw [turnL_length]; omega
      rw [turn_get _ i 0 (by omega), if_pos (by omega), Nat.add_zero, List.getElem?_eq_getElem hi]
      show (turnL (fromT way t))[0]? = _
      rw [List.getElem?_eq_getElem hlT]
      congr 1
      generalize hm1 : ((fromT way t).drop j ++ (fromT way t).take j)[i] = m1 at *
      have hm1m : m1 ∈ fromT way t := (hmemR m1).1 (hm1 ▸ List.getElem_mem hi)
      have hle := hmin _ ((hmemR _).2 ((hmemT _).1 (List.getElem_mem hlT)))
      obtain ⟨q, hq, eq⟩ := List.mem_iff_getElem.1 ((hmemT m1).2 hm1m)
      rcases Nat.eq_zero_or_pos q with h0 | h0
      · subst h0; exact eq
      · have := hfirst q _ _ h0 (List.getElem?_eq_getElem hlT) (List.getElem?_eq_getElem hq)
        rw [eq] at this
        omega
  · refine ⟨fun _ => by rw [hr, e]; rfl, fun hall => ?_⟩
    have := hall k hk
    omega
/-- The next token of a ring, or the first one behind the last. -/
theorem RingOk.nextAt {ts ws r : List Int} (h : RingOk ts ws r) {x : Int} (h0 : r[0]? = some x) {m : Nat} (hm : 0 < m) (hml : m ≤ r.length) {y : Int} (hy : r[m - 1]? = some y) :
    (m = r.length ∧ stepT ts ws y = x) ∨ ∃ hlt : m < r.length, stepT ts ws y = r[m] ∧ r[m] ≠ x := by
  rcases Nat.lt_or_ge m r.length with h1 | h1
  · right
    have e := h.next (m - 1) _ _ hy (by rw [show m - 1 + 1 = m by omega]; exact List.getElem?_eq_getElem h1)
    refine ⟨h1, e, fun he => ?_⟩
    rw [List.getElem?_eq_getElem (show 0 < r.length by omega)] at h0
    injection h0 with h0
    exact (List.pairwise_iff_getElem.1 h.nodup 0 m (by omega) h1 hm) (by rw [h0, he])
  · left
    have e : m = r.length := by omega
    exact ⟨e, h.back _ _ h0 (by rw [← e]; exact hy)⟩
end Go.Proofs.Ytfgpenekmokdiaa.Fl
namespace Go.Proofs.Ytfgpenekmokdiaa
open Go Go.RowKit Fl

theorem atB_pad' {s : List Bool} (x : Nat) : atB (padM s) x = atB s x := by
  unfold atB padM
  rw [List.getD_eq_getElem?_getD, List.getD_eq_getElem?_getD, List.getElem?_append]
  split
  · rfl
  · rename_i h
    rw [List.getElem?_eq_none (l := s) (by omega), List.getElem?_replicate]
    split <;> rfl
def setAll (ns : List Int) (l : List Nat) (z : Int) : List Int := l.foldl (fun a x => a.set x z) ns
theorem setAll_length (l : List Nat) (z : Int) : ∀ ns : List Int, (setAll ns l z).length = ns.length := by
  induction l with
  | nil => intro ns; rfl
  | cons y l ih => intro ns; show (setAll (ns.set y z) l z).length = _; rw [ih, List.length_set]
theorem setAll_step {ns : List Int} {l : List Nat} {z : Int} {k : Nat} (h : k < l.length) : setAll ns (l.take (k + 1)) z = (setAll ns (l.take k) z).set l[k] z := by
  unfold setAll
  rw [List.take_succ_eq_append_getElem h, List.foldl_append]
  rfl
theorem setAll_mapR {n : Nat} {z : Int} : ∀ {l : List Nat} {f : Nat → Int}, setAll (mapR n f) l z = mapR n (fun x => if x ∈ l then z else f x)
  | [], f => by
    show mapR n f = _
    exact mapR_congr fun i _ => by simp
  | y :: l, f => by
    show setAll ((mapR n f).set y z) l z = _
    rw [mapR_set (f' := fun x => if x = y then z else f x) (by simp) (fun i hi => by simp [hi]), setAll_mapR]
    refine mapR_congr fun i _ => ?_
    by_cases h1 : i ∈ l
    · simp [h1]
    · by_cases h2 : i = y <;> simp [h1, h2]
theorem foldl_min : ∀ (l : List Int) (a : Int), (l.foldl min a = a ∨ l.foldl min a ∈ l) ∧ l.foldl min a ≤ a ∧ ∀ x ∈ l, l.foldl min a ≤ x
  | [], a => by simp
  | y :: l, a => by
    obtain ⟨h1, h2, h3⟩ := foldl_min l (min a y)
    show ((l.foldl min (min a y) = a ∨ _) ∧ l.foldl min (min a y) ≤ a ∧ ∀ x ∈ y :: l, l.foldl min (min a y) ≤ x)
    refine ⟨?_, by omega, fun x hx => ?_⟩
    · rcases h1 with h1 | h1
      · by_cases h : a ≤ y
        · left; rw [h1]; omega
        · right; show l.foldl min (min a y) ∈ y :: l; rw [h1, show min a y = y by omega]; simp
      · right; exact List.mem_cons_of_mem _ h1
    · rcases List.mem_cons.1 hx with rfl | hx
      · omega
      · exact h3 x hx
theorem minOf_mem {l : List Int} (h : l ≠ []) : Lib.minOf l ∈ l ∧ ∀ x ∈ l, Lib.minOf l ≤ x := by
  cases l with
  | nil => exact absurd rfl h
  | cons y l =>
    obtain ⟨h1, h2, h3⟩ := foldl_min (y :: l) y
    refine ⟨?_, h3⟩
    rcases h1 with h1 | h1
    · show (y :: l).foldl min y ∈ _
      rw [h1]; simp
    · exact h1
theorem minOf_name {g : GraphD} {s : List Bool} {v : Nat} {l : List Nat} (hv : v ∈ l) (h : ∀ x, x ∈ l ↔ both g s v x) : Lib.minOf (l.map fun x : Nat => (x : Int)) = nameOf g s v := by
  have hne : (l.map fun x : Nat => (x : Int)) ≠ [] := by
    intro e
    rw [List.map_eq_nil_iff] at e
    subst e
    simp at hv
  obtain ⟨h1, h2⟩ := minOf_mem hne
  obtain ⟨a, ha, e⟩ := List.mem_map.1 h1
  have hself := (h v).1 hv
  obtain ⟨b, hb, _, hb1, hb2⟩ := name_open hself.1.left.1 hself.1.left.2
  have hbl : b ∈ l := (h b).2 hb1
  have h3 := h2 b (List.mem_map.2 ⟨b, hbl, rfl⟩)
  have h4 : ¬ a < b := fun hl => hb2 a hl ((h a).1 ha)
  rw [hb]
  omega
/-- Which names are known when the vertices P are done. -/
structure NF (g : GraphD) (s : List Bool) (P : List Nat) (M : List Bool) (ns : List Int) : Prop where
  sh : ∀ x, atB s x = true → atB M x = true
  un : ∀ x y, both g s x y → atB M x = true → atB M y = true
  pr : ∀ x ∈ P, atB M x = true
  ns : ns = mapR g.length (fun x => if atB M x then nameOf g s x else -1)
theorem NF.start (g : GraphD) (s : List Bool) : NF g s [] (padM s) (List.replicate g.length (-1)) := by
  refine ⟨fun x h => by rw [atB_pad']; exact h, fun x y h e => ?_, by simp, ?_⟩
  · rw [atB_pad', h.1.left.2] at e; cases e
  · rw [← mapR_same]
    refine mapR_congr fun i _ => ?_
    rw [atB_pad']
    split
    · rename_i h
      rw [name_shut fun e => by rw [h] at e; cases e.2]
    · rfl
theorem NF.skip {g : GraphD} {s : List Bool} {P : List Nat} {M : List Bool} {ns : List Int} {v : Nat} (h : NF g s P M ns) (hv : atB M v = true) : NF g s (P ++ [v]) M ns :=
  ⟨h.sh, h.un, fun x hx => by
    rcases List.mem_append.1 hx with hx | hx
    · exact h.pr x hx
    · simp at hx; subst hx; exact hv, h.ns⟩
theorem NF.comp {g : GraphD} {s M M' : List Bool} {L L1 l P : List Nat} {ns : List Int} {v : Nat} (h : NF g s P M ns) (hg : validG g = true) (hL : Dfs g s L []) (hall : ∀ x, x < g.length → atB s x = false → x ∈ L) (hsp : L = L1 ++ v :: P.reverse)
    (hv : atB M v = false) (hl : Dfs (revG g) M l []) (hlv : v ∈ l) (hp : ∀ x ∈ l, PathG (revG g) M v x) (hM' : ∀ x, atB M' x = true ↔ atB M x = true ∨ x ∈ l) : NF g s (P ++ [v]) M' (setAll ns l (Lib.minOf (l.map fun x : Nat => (x : Int)))) := by
  have key := kos_comp hg hL hall hsp h.sh h.un (fun x hx => h.pr x (by simpa using hx)) hv hl hlv hp
  have hname := minOf_name hlv key
  refine ⟨fun x hx => (hM' x).2 (.inl (h.sh x hx)), fun x y hb e => ?_, fun x hx => ?_, ?_⟩
  · rcases (hM' x).1 e with e | e
    · exact (hM' y).2 (.inl (h.un x y hb e))
    · exact (hM' y).2 (.inr ((key y).2 (((key x).1 e).trans hb)))
  · rcases List.mem_append.1 hx with hx | hx
    · exact (hM' x).2 (.inl (h.pr x hx))
    · simp at hx; subst hx; exact (hM' x).2 (.inr hlv)
  · rw [hname, h.ns, setAll_mapR]
    refine mapR_congr fun i _ => ?_
    by_cases hi : i ∈ l
    · rw [if_pos hi, if_pos ((hM' i).2 (.inr hi)), name_eq ((key i).1 hi)]
    · rw [if_neg hi]
      by_cases hm : atB M i = true
      · rw [if_pos hm, if_pos ((hM' i).2 (.inl hm))]
      · rw [if_neg hm, if_neg (fun e => by rcases (hM' i).1 e with e | e <;> contradiction)]
theorem NF.all {g : GraphD} {s : List Bool} {P M : _} {ns : List Int} (h : NF g s P M ns) (hall : ∀ x, x < g.length → atB s x = false → x ∈ P) : ns = namesL g s := by
  rw [h.ns]
  unfold namesL mapR
  refine List.map_congr_left fun i hi => ?_
  have hi := List.mem_range.1 hi
  by_cases hm : atB M i = true
  · rw [if_pos hm]
  · rw [if_neg hm, name_shut fun e => hm (h.pr i (hall i e.1 e.2))]
theorem names_own (g : GraphD) (s : List Bool) : namesL (woG g s) s = namesL g s := by
  unfold namesL
  rw [woG_length]
  refine List.map_congr_left fun i _ => ?_
  unfold nameOf
  congr 1
  congr 1
  funext w
  exact decide_eq_decide.2 both_own
end Go.Proofs.Ytfgpenekmokdiaa
