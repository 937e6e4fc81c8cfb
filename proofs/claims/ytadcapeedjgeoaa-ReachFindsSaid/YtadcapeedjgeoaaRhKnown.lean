/- Contract of the sanity check of layer 4's laws: it returns true, if reach's functions keep what RhDev asks. -/
import Derived.Test.YtadcapeedjgeoaaRhDev
import Derived.Test.YtadcapeedjgeoaaGrSame
namespace Go.Proofs.Ytadcapeedjgeoaa
open Go Go.RowKit Fl

abbrev kG : GraphD := [[1], [2], [0]]
theorem kG_valid : validG kG = true := by decide
theorem kG_chk : chkG kG 3 = 0 := by decide
theorem kE {u v : Nat} (h : EdgeG kG u v) : (u = 0 ∧ v = 1) ∨ (u = 1 ∧ v = 2) ∨ (u = 2 ∧ v = 0) := by
  have hr := h.range kG_valid
  have h1 : u < 3 := hr.1
  have h2 : v < 3 := hr.2.1
  unfold EdgeG rowG at h
  match u, v, h1, h2 with
  | 0, 0, _, _ => simp at h
  | 0, 1, _, _ => simp
  | 0, 2, _, _ => simp at h
  | 1, 0, _, _ => simp at h
  | 1, 1, _, _ => simp at h
  | 1, 2, _, _ => simp
  | 2, 0, _, _ => simp
  | 2, 1, _, _ => simp at h
  | 2, 2, _, _ => simp at h
  | (n + 3), _, h, _ => omega
  | _, (n + 3), _, h => omega
theorem kOpen (v : Nat) : atB [false, false, false] v = false := by
  match v with
  | 0 => rfl
  | 1 => rfl
  | 2 => rfl
  | (n + 3) => rfl
theorem kStep {s : List Bool} {u v : Nat} (hu : u < 3) (hv : v < 3) (hs : atB s u = false) (ht : atB s v = false) (e : EdgeG kG u v) : PathG kG s u v := .head hu hs e (.refl hv ht)
theorem kM1 : mutB kG [false, false, false] = true := by
  refine (mutB_iff _ _).2 ⟨kG_chk, ⟨0, by decide, rfl⟩, ?_⟩
  have e0 : PathG kG [false, false, false] 0 1 := kStep (by decide) (by decide) rfl rfl (by unfold EdgeG rowG; simp)
  have e1 : PathG kG [false, false, false] 1 2 := kStep (by decide) (by decide) rfl rfl (by unfold EdgeG rowG; simp)
  have e2 : PathG kG [false, false, false] 2 0 := kStep (by decide) (by decide) rfl rfl (by unfold EdgeG rowG; simp)
  have r : ∀ v, v < 3 → PathG kG [false, false, false] v v := fun v hv => .refl hv (kOpen v)
  intro u v hu hv _ _
  have h1 : u < 3 := hu
  have h2 : v < 3 := hv
  match u, v, h1, h2 with
  | 0, 0, _, _ => exact r 0 (by decide)
  | 0, 1, _, _ => exact e0
  | 0, 2, _, _ => exact e0.trans e1
  | 1, 0, _, _ => exact e1.trans e2
  | 1, 1, _, _ => exact r 1 (by decide)
  | 1, 2, _, _ => exact e1
  | 2, 0, _, _ => exact e2
  | 2, 1, _, _ => exact e2.trans e0
  | 2, 2, _, _ => exact r 2 (by decide)
  | (n + 3), _, h, _ => omega
  | _, (n + 3), _, h => omega
/-- With vertex 1 shut, 0 reaches 0 only. -/
theorem kNo : ¬ PathG kG [false, true, false] 0 2 := fun h => by
  have := PathG.closed (P := fun v => v = 0) rfl (fun a b ha e hb hs => by
    rcases kE e with ⟨_, rfl⟩ | ⟨rfl, _⟩ | ⟨rfl, _⟩
    · cases hs
    · cases ha
    · cases ha) h
  cases this
theorem kM2 : mutB kG [false, true, false] = false := mutB_no fun h => kNo (h.2.2 0 2 (by decide) (by decide) rfl rfl)
theorem kF0 : fromE kG 3 2 = 0 := by decide
theorem kF : fromL kG [false, true, false] 2 = [true, false, true] := by
  rw [fromL_ok kF0]
  refine (reachL_eq rfl fun x hx => ?_).symm
  have h1 : x < 3 := hx
  have r2 : PathG kG [false, true, false] 2 2 := .refl (by decide) rfl
  match x, h1 with
  | 0, _ => exact ⟨fun _ => kStep (by decide) (by decide) rfl rfl (by unfold EdgeG rowG; simp), fun _ => rfl⟩
  | 1, _ => exact ⟨fun h => (by cases h), fun h => (by have := h.right.2; cases this)⟩
  | 2, _ => exact ⟨fun _ => r2, fun _ => rfl⟩
theorem alloc4 (w : World) (o1 o2 o3 o4 : Obj) : ((((w.alloc o1).alloc o2).alloc o3).alloc o4).heap[w.heap.size]? = some o1 ∧ ((((w.alloc o1).alloc o2).alloc o3).alloc o4).heap[w.heap.size + 1]? = some o2 ∧ ((((w.alloc o1).alloc o2).alloc o3).alloc o4).heap[w.heap.size + 2]? = some o3 ∧ ((((w.alloc o1).alloc o2).alloc o3).alloc o4).heap[w.heap.size + 3]? = some o4 := by
  have e : ((((w.alloc o1).alloc o2).alloc o3).alloc o4).heap = (((w.heap.push o1).push o2).push o3).push o4 := rfl
  rw [e]
  refine ⟨?_, ?_, ?_, ?_⟩ <;> simp only [Array.getElem?_push, Array.size_push]
  · rw [if_neg (by omega), if_neg (by omega), if_neg (by omega), if_pos trivial]
  · rw [if_neg (by omega), if_neg (by omega), if_pos trivial]
  · rw [if_neg (by omega), if_pos trivial]
  · rw [if_pos trivial]
theorem kRows (w : World) (e1 e2 e3 e4 : TypeId) : RowsAt ((((w.alloc (.cells #[.int .i64 1] e1)).alloc (.cells #[.int .i64 2] e2)).alloc (.cells #[.int .i64 0] e3)).alloc (.cells #[.slice (some ⟨w.heap.size, 0, none⟩) 1 1, .slice (some ⟨w.heap.size + 1, 0, none⟩) 1 1, .slice (some ⟨w.heap.size + 1 + 1, 0, none⟩) 1 1] e4)) (some ⟨w.heap.size + 1 + 1 + 1, 0, none⟩) kG := by
  obtain ⟨b1, b2, b3, b4⟩ := alloc4 w (.cells #[.int .i64 1] e1) (.cells #[.int .i64 2] e2) (.cells #[.int .i64 0] e3) (.cells #[.slice (some ⟨w.heap.size, 0, none⟩) 1 1, .slice (some ⟨w.heap.size + 1, 0, none⟩) 1 1, .slice (some ⟨w.heap.size + 1 + 1, 0, none⟩) 1 1] e4)
  generalize ((((w.alloc (.cells #[.int .i64 1] e1)).alloc (.cells #[.int .i64 2] e2)).alloc (.cells #[.int .i64 0] e3)).alloc (.cells #[.slice (some ⟨w.heap.size, 0, none⟩) 1 1, .slice (some ⟨w.heap.size + 1, 0, none⟩) 1 1, .slice (some ⟨w.heap.size + 1 + 1, 0, none⟩) 1 1] e4)) = W at b1 b2 b3 b4 ⊢
  have one : ∀ (g : Nat) (z : Int) (e : TypeId), W.heap[g]? = some (.cells #[.int .i64 z] e) → Holds W (some ⟨g, 0, none⟩) ([z].map Iv) := fun g z e h => .inr ⟨g, 0, rfl, block_lt h, fun j hj => by
    have hj1 : j < 1 := by simpa using hj
    obtain rfl : j = 0 := by omega
    rw [cell_of_row W g _ _ e _ h]
    rfl⟩
  refine .inr ⟨w.heap.size + 1 + 1 + 1, 0, rfl, block_lt b4, fun k hk => ?_⟩
  have h1 : k < 3 := hk
  match k, h1 with
  | 0, _ => exact ⟨_, 1, by rw [cell_of_row W _ _ _ e4 _ b4]; rfl, one _ _ _ b1⟩
  | 1, _ => exact ⟨_, 1, by rw [cell_of_row W _ _ _ e4 _ b4]; rfl, one _ _ _ b2⟩
  | 2, _ => exact ⟨_, 1, by rw [cell_of_row W _ _ _ e4 _ b4]; rfl, one _ _ _ b3⟩
theorem kMarks (w : World) (n : Nat) (a b c : Bool) (e : TypeId) (hn : n = w.heap.size) : Holds (w.alloc (.cells #[.bool a, .bool b, .bool c] e)) (some ⟨n, 0, none⟩) ([a, b, c].map Bo) := by
  subst hn
  have h := heap_alloc_new w (.cells #[.bool a, .bool b, .bool c] e)
  refine .inr ⟨_, 0, rfl, block_lt h, fun j hj => ?_⟩
  have h1 : j < 3 := by simpa using hj
  rw [cell_of_row _ _ _ _ e _ h]
  match j, h1 with
  | 0, _ => rfl
  | 1, _ => rfl
  | 2, _ => rfl
set_option maxRecDepth 100000 in
set_option maxHeartbeats 4000000 in
theorem known4_c (hF : DevFrom) (hM : DevMutual) (hV : DevValid) (w : World) : Calls Try.prog 8 #[] w fun e w' => e = .returned (.bool true) ∧ Below w.heap.size w w' := by
  have HF := Lib.hid hF
  have HM := Lib.hid hM
  have HV := Lib.hid hV
  have HZ : Hid (Sized kG) := Lib.hid (Sized.valid kG_valid)
  have HA : Hid (∀ W : World, Below W.heap.size W ((((W.alloc (.cells #[.int .i64 1] 3)).alloc (.cells #[.int .i64 2] 3)).alloc (.cells #[.int .i64 0] 3)).alloc (.cells #[.slice (some ⟨W.heap.size, 0, none⟩) 1 1, .slice (some ⟨W.heap.size + 1, 0, none⟩) 1 1, .slice (some ⟨W.heap.size + 1 + 1, 0, none⟩) 1 1] 24))) := Lib.hid fun W => ((((Below.refl _ _).alloc (Nat.le_refl _) _).alloc (by simp) _).alloc (by simp; omega) _).alloc (by simp; omega) _
  have HB : Hid (∀ (W : World) (ob : Obj), Below W.heap.size W (W.alloc ob)) := Lib.hid fun W ob => (Below.refl _ _).alloc (Nat.le_refl _) _
  clear hF hM hV
  go_enter Try.func8, Try.ntmps8
  go_wp2_with fail
  refine (HM.out (some ⟨w.heap.size + 1 + 1 + 1, 0, none⟩) (some ⟨w.heap.size + 1 + 1 + 1 + 1, 0, none⟩) 3 3 kG [false, false, false] _ ((kRows w _ _ _ _).keep (HB.out _ _)) (kMarks _ _ _ _ _ _ (by simp)) HZ.out).mono ?_
  rw [show chkG kG ([false, false, false] : List Bool).length = 0 from kG_chk, kM1]
  rintro e w1 ⟨rfl, hb1⟩
  have hr1 := ((kRows w 3 3 3 24).keep (HB.out _ _)).keep hb1
  have hw1 := (HA.out w).trans (((HB.out _ _).trans (hb1.mono (HB.out _ _).size)).mono (HA.out w).size)
  have HR1 := Lib.hid hr1
  have HW1 := Lib.hid hw1
  clear hb1 hr1 hw1
  go_wp2_with fail
  refine (HM.out _ (some ⟨w1.heap.size, 0, none⟩) 3 3 kG [false, true, false] _ (HR1.out.keep (HB.out _ _)) (kMarks _ _ _ _ _ _ rfl) HZ.out).mono ?_
  rw [show chkG kG ([false, true, false] : List Bool).length = 0 from kG_chk, kM2]
  rintro e w2 ⟨rfl, hb2⟩
  have hb2' := (HB.out w1 _).trans (hb2.mono (HB.out w1 _).size)
  have HR2 := Lib.hid (HR1.out.keep hb2')
  have HW2 := Lib.hid (HW1.out.trans (hb2'.mono HW1.out.size))
  clear hb2 hb2' HR1 HW1
  go_wp2_with fail
  refine (HF.out _ (some ⟨w2.heap.size, 0, none⟩) 3 3 kG [false, true, false] 2 _ (HR2.out.keep (HB.out _ _)) (kMarks _ _ _ _ _ _ rfl) HZ.out).mono ?_
  rw [show fromE kG ([false, true, false] : List Bool).length 2 = 0 from kF0, kF]
  rintro e w3 ⟨A, c, rfl, hl3, hb3⟩
  have hb3' := (HB.out w2 _).trans (hb3.mono (HB.out w2 _).size)
  have HR3 := Lib.hid (HR2.out.keep hb3')
  have HL3 := Lib.hid hl3
  have HW3 := Lib.hid (HW2.out.trans (hb3'.mono HW2.out.size))
  clear hb3 hb3' hl3 HR2 HW2
  go_wp2_with fail
  refine (sameBoolsE_c A (some ⟨w3.heap.size, 0, none⟩) c 3 [true, false, true] _ (HL3.out.keep (HB.out _ _)) (kMarks _ _ _ _ _ _ rfl) (by decide)).mono ?_
  rintro e w4 ⟨rfl, n, rfl⟩
  have HR4 := Lib.hid ((HR3.out.keep (HB.out w3 (.cells #[.bool true, .bool false, .bool true] 4))).keep (below_drewN (Below.refl _ _) n))
  have HW4 := Lib.hid (HW3.out.trans ((below_drewN (HB.out w3 (.cells #[.bool true, .bool false, .bool true] 4)) n).mono HW3.out.size))
  clear HR3 HW3 HL3
  go_wp2_with fail
  refine (HV.out _ 3 kG _ HR4.out HZ.out).mono ?_
  rw [kG_valid]
  rintro e w5 ⟨rfl, hb5⟩
  have HW5 := Lib.hid (HW4.out.trans (hb5.mono HW4.out.size))
  clear hb5
  go_wp2
  go_ret
  exact ⟨rfl, HW5.out⟩
end Go.Proofs.Ytadcapeedjgeoaa
