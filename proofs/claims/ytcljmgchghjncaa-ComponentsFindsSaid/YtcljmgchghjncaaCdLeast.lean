/- Contract of components' leastFree. -/
import Derived.Test.YtcljmgchghjncaaCdQuotM
import Derived.Test.YtcljmgchghjncaaCdQuot
namespace Go.Proofs.Ytcljmgchghjncaa
open Go Go.RowKit Fl

def leastZ : Option Nat → Int
  | some v => (v : Int)
  | none => -1
theorem trL_length (f : Nat → Nat) : (trL f).length = 24 := by simp [trL]
set_option maxRecDepth 100000 in
set_option maxHeartbeats 4000000 in
theorem leastFree_c (B : Option Addr) (d : Nat) (g : GraphD) (s : List Bool) (f : Nat → Nat) (M : List Bool) (w : World) (hs : Holds w B ((namesL g s).map Iv)) (hl : g.length ≤ 24) (ml : M.length = 24) (hf : ∀ x, f x ≤ 1000) :
    Calls Try.prog 28 #[.slice B g.length d, .agg (trL f).toArray, .agg (M.map Bo).toArray] w fun e w' => e = .returned (.int .i64 (leastZ (leastF (freeP g s M f) g.length))) ∧ Below w.heap.size w w' := by
  have hA1 : ArrC ((w.alloc (.cells (trL f).toArray 52)).alloc (.cells (M.map Bo).toArray 54)) w.heap.size 52 (trL f) := ArrC.alloc (heap_alloc_new _ _) _
  have hA2 : ArrC ((w.alloc (.cells (trL f).toArray 52)).alloc (.cells (M.map Bo).toArray 54)) (w.heap.size + 1) 54 (M.map Bo) := by
    have h := heap_alloc_new (w.alloc (.cells (trL f).toArray 52)) (.cells (M.map Bo).toArray 54)
    rw [show (w.alloc (.cells (trL f).toArray 52)).heap.size = w.heap.size + 1 from by simp] at h
    exact h
  have HA1 := Lib.hid hA1
  have HA2 := Lib.hid hA2
  have HB := Lib.hid (((Below.refl w.heap.size w).alloc (Nat.le_refl _) (.cells (trL f).toArray 52)).alloc (by simp) (.cells (M.map Bo).toArray 54))
  have HS := Lib.hid (hs.keep HB.out)
  clear hA1 hA2 hs
  go_enter Try.func28, Try.ntmps28
  go_wp2
  obtain ⟨G, hG⟩ : ∃ G, w.heap.size = G := ⟨_, rfl⟩
  have HGG := Lib.hid hG
  rw [hG] at HA1 HA2 HB ⊢
  clear hG
  generalize (w.alloc (.cells (trL f).toArray 52)).alloc (.cells (M.map Bo).toArray 54) = w3 at *
  have HN0 : Hid (∀ u, u < 0 → freeP g s M f u = false) := Lib.hid (fun u hu => by omega)
  go_loopw [11] (fun iv wr => ∃ v : Nat, iv = .int .i64 v ∧ v ≤ g.length ∧ Hid (∀ u, u < v → freeP g s M f u = false) ∧ wr = w3) (fun iv _ => g.length - (intOf iv).toNat)
  case atStart => exact ⟨0, rfl, Nat.zero_le _, HN0, rfl⟩
  case round =>
    clear HN0
    obtain ⟨v, rfl, hv, HN, rfl⟩ := hrel
    by_cases hlt : v < g.length
    · obtain ⟨bn, on, rfl, en⟩ := names_cell HS.out hlt
      have hv24 : v < 24 := by omega
      have hvM : v < M.length := by omega
      obtain ⟨e1, _⟩ := HA1.out.cell (trL_at (f := f) hv24)
      obtain ⟨e2, _⟩ := HA2.out.cell (k := v) (u := .bool M[v]) (by rw [List.getElem?_map, List.getElem?_eq_getElem hvM]; rfl)
      have hMv := atB_at hvM
      have hfv := hf v
      obtain ⟨zx, hzx⟩ : ∃ zx, nameOf g s v = zx := ⟨_, rfl⟩
      have HFr : Hid (freeP g s M f v = (decide (zx = v) && (!M[v] && decide (f v = 0)))) := Lib.hid (by unfold freeP; rw [hzx, hMv])
      rw [hzx] at en
      clear hzx hMv
      generalize M[v] = mv at *
      generalize f v = fv at *
      by_cases h1 : zx = (v : Int)
      · by_cases h2 : mv = true
        · subst h2
          have HN2 : Hid (∀ u, u < v + 1 → freeP g s M f u = false) := Lib.hid (fun u hu => by
            rcases Nat.lt_succ_iff_lt_or_eq.1 hu with h | rfl
            · exact HN.out u h
            · rw [HFr.out]; simp)
          clear HFr HN
          go_wp2
          go_roundw
          case rel => exact ⟨v + 1, by go_num, by omega, HN2, trivial⟩
          case measure => simp [intOf]; omega
        · have h2' : mv = false := by simpa using h2
          subst h2'
          by_cases h3 : fv = 0
          · have HR : Hid (leastF (freeP g s M f) g.length = some v) := Lib.hid (leastF_is hlt (by rw [HFr.out, h1, h3]; simp) (fun j hj => HN.out j hj))
            subst h3
            clear HFr HN
            go_wp2
            go_ret
            rw [HR.out]
            exact ⟨rfl, by rw [HGG.out]; exact HB.out⟩
          · have HN2 : Hid (∀ u, u < v + 1 → freeP g s M f u = false) := Lib.hid (fun u hu => by
              rcases Nat.lt_succ_iff_lt_or_eq.1 hu with h | rfl
              · exact HN.out u h
              · rw [HFr.out]; simp [h3])
            clear HFr HN
            go_wp2
            go_roundw
            case rel => exact ⟨v + 1, by go_num, by omega, HN2, trivial⟩
            case measure => simp [intOf]; omega
      · have HN2 : Hid (∀ u, u < v + 1 → freeP g s M f u = false) := Lib.hid (fun u hu => by
          rcases Nat.lt_succ_iff_lt_or_eq.1 hu with h | rfl
          · exact HN.out u h
          · rw [HFr.out]; simp [h1])
        clear HFr HN
        go_wp2
        go_roundw
        case rel => exact ⟨v + 1, by go_num, by omega, HN2, trivial⟩
        case measure => simp [intOf]; omega
    · obtain rfl : v = g.length := by omega
      have HR : Hid (leastF (freeP g s M f) g.length = none) := Lib.hid (by
        rcases e : leastF (freeP g s M f) g.length with _ | k
        · rfl
        · obtain ⟨k1, k2, _⟩ := leastF_some e
          rw [HN.out k k2] at k1
          cases k1)
      clear HN
      go_wp2
      go_ret
      rw [HR.out]
      exact ⟨rfl, by rw [HGG.out]; exact HB.out⟩
end Go.Proofs.Ytcljmgchghjncaa
