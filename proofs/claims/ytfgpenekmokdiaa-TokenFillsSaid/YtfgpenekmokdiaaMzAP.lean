/- Joined texts. -/
import Derived.Test.YtfgpenekmokdiaaMzAB
import Derived.Test.YtfgpenekmokdiaaMzAM
import Derived.Test.YtfgpenekmokdiaaMzAO
namespace Go.Proofs.Ytfgpenekmokdiaa
open Go Go.RowKit Fl

theorem order_one {g : GraphD} {s : List Bool} : mutP g s ↔ (orderL g s).length = 1 := by
  have hok := order_ok g s
  constructor
  · rintro ⟨⟨a, ha, hs⟩, hall⟩
    obtain ⟨w, hw, _, _, _⟩ := name_open ha hs
    obtain ⟨h1, h2, _, h3⟩ := name_name hw
    have hin := order_all h2 h1
    have key : ∀ z ∈ orderL g s, z = (w : Int) := fun z hz => by
      obtain ⟨v, rfl, hv, hn⟩ := hok.name z hz
      have hvo := (name_name hn).2.2.1
      have := name_eq (⟨hall a v ha hv hs hvo, hall v a hv ha hvo hs⟩ : both g s a v)
      rw [hw, hn] at this
      omega
    rcases e : orderL g s with _ | ⟨x, _ | ⟨y, l⟩⟩
    · rw [e] at hin; simp at hin
    · rfl
    · have hx := key x (by rw [e]; simp)
      have hy := key y (by rw [e]; simp)
      have hnd := hok.nodup
      rw [e, hx, hy] at hnd
      simp at hnd
  · intro h
    rcases e : orderL g s with _ | ⟨x, _ | ⟨y, l⟩⟩
    · rw [e] at h; simp at h
    · obtain ⟨w, rfl, hw, hn⟩ := hok.name x (by rw [e]; simp)
      have key : ∀ v, v < g.length → atB s v = false → nameOf g s v = w := fun v hv hs => by
        obtain ⟨a, ha, _⟩ := name_open hv hs
        obtain ⟨h1, h2, _⟩ := name_name ha
        have := order_all h2 h1
        rw [e] at this
        simp at this
        rw [ha, this]
      refine ⟨⟨w, hw, (name_name hn).2.2.1⟩, fun u v hu hv hus hvs => ?_⟩
      exact (name_both (by rw [key u hu hus, key v hv hvs]) (by rw [key u hu hus]; omega)).1
    · rw [e] at h; simp at h
theorem name_is {g : GraphD} {s : List Bool} {v w : Nat} (h : both g s v w) (hl : ∀ u, u < w → ¬ both g s v u) : nameOf g s v = w := by
  obtain ⟨a, ha, _, h1, h2⟩ := name_open h.1.left.1 h.1.left.2
  have h3 : ¬ a < w := fun hlt => hl a hlt h1
  have h4 : ¬ w < a := fun hlt => h2 w hlt h
  rw [ha]; omega
theorem leastF_no {p : Nat → Bool} {n : Nat} (h : ∀ j, j < n → p j = false) : leastF p n = none := by
  rcases e : leastF p n with _ | k
  · rfl
  · obtain ⟨h1, h2, _⟩ := leastF_some e
    rw [h k h2] at h1; cases h1
abbrev eG : GraphD := [[1], [0, 2], []]
abbrev eS : List Bool := [false, false, false]
theorem eG_valid : validG eG = true := by decide
theorem eE {u v : Nat} (h : EdgeG eG u v) : (u = 0 ∧ v = 1) ∨ (u = 1 ∧ v = 0) ∨ (u = 1 ∧ v = 2) := by
  have hr := h.range eG_valid
  have h1 : u < 3 := hr.1
  have h2 : v < 3 := hr.2.1
  unfold EdgeG rowG at h
  match u, v, h1, h2 with
  | 0, 0, _, _ => simp at h
  | 0, 1, _, _ => simp
  | 0, 2, _, _ => simp at h
  | 1, 0, _, _ => simp
  | 1, 1, _, _ => simp at h
  | 1, 2, _, _ => simp
  | 2, 0, _, _ => simp at h
  | 2, 1, _, _ => simp at h
  | 2, 2, _, _ => simp at h
  | (n + 3), _, h, _ => omega
  | _, (n + 3), _, h => omega
theorem eOpen (v : Nat) : atB eS v = false := by
  match v with
  | 0 => rfl
  | 1 => rfl
  | 2 => rfl
  | (n + 3) => rfl
theorem eStep {u v : Nat} (hu : u < 3) (hv : v < 3) (e : EdgeG eG u v) : PathG eG eS u v := .head hu (eOpen u) e (.refl hv (eOpen v))
theorem eNo {u : Nat} (h : PathG eG eS 2 u) : u = 2 := PathG.closed (P := fun v => v = 2) rfl (fun a b ha e _ _ => by
  rcases eE e with ⟨rfl, _⟩ | ⟨rfl, _⟩ | ⟨rfl, _⟩ <;> cases ha) h
theorem eN0 : nameOf eG eS 0 = (0 : Nat) := name_is (both.self (by decide) rfl) fun u hu => by omega
theorem eN1 : nameOf eG eS 1 = (0 : Nat) := name_is ⟨eStep (by decide) (by decide) (by unfold EdgeG rowG; simp), eStep (by decide) (by decide) (by unfold EdgeG rowG; simp)⟩ fun u hu => by omega
theorem eN2 : nameOf eG eS 2 = (2 : Nat) := name_is (both.self (by decide) rfl) fun u hu h => by have := eNo h.1; omega
theorem e_names : namesL eG eS = [0, 0, 2] := by
  show [nameOf eG eS 0, nameOf eG eS 1, nameOf eG eS 2] = _
  rw [eN0, eN1, eN2]; rfl
theorem e_b1 : best eG eS [] = some 0 := leastF_is (by decide) (cand_iff.2 ⟨eN0, by simp, fun w hw hn hne _ hp => by
  have h3 : w < 3 := hw
  match w, h3 with
  | 0, _ => exact hne rfl
  | 1, _ => rw [eN1] at hn; cases hn
  | 2, _ => have := eNo hp; omega⟩) fun j hj => by omega
theorem e_b2 : best eG eS [0] = some 2 := leastF_is (by decide) (cand_iff.2 ⟨eN2, by simp, fun w hw hn hne hno _ => by
  have h3 : w < 3 := hw
  match w, h3 with
  | 0, _ => exact hno (by simp)
  | 1, _ => rw [eN1] at hn; cases hn
  | 2, _ => exact hne rfl⟩) fun j hj => by
    rcases e : cand eG eS [0] j with _ | _
    · rfl
    · obtain ⟨h1, h2, _⟩ := cand_iff.1 e
      match j, hj with
      | 0, _ => exact absurd (by simp) h2
      | 1, _ => rw [eN1] at h1; cases h1
theorem e_b3 : best eG eS [0, 2] = none := leastF_no fun j hj => by
  have h3 : j < 3 := hj
  rcases e : cand eG eS [0, 2] j with _ | _
  · rfl
  · obtain ⟨h1, h2, _⟩ := cand_iff.1 e
    match j, h3 with
    | 0, _ => exact absurd (by simp) h2
    | 1, _ => rw [eN1] at h1; cases h1
    | 2, _ => exact absurd (by simp) h2
theorem e_order : orderL eG eS = [0, 2] := (((orderL_runs eG eS).some e_b1).some e_b2 |>.none e_b3).symm
theorem e_quot : quotL eG eS = [[2], [], []] := by
  have h0 : quotRow eG eS 0 = [2] := sorted_ext (quotRow_sorted _ _ _) (by simp) fun z => by
    rw [quotRow_mem]
    constructor
    · rintro ⟨u, x, he, hu, hx, h1, h2⟩
      rcases eE he with ⟨rfl, rfl⟩ | ⟨rfl, rfl⟩ | ⟨rfl, rfl⟩
      · rw [eN1] at hx; omega
      · rw [eN0] at hx; omega
      · rw [eN2] at hx; simp; omega
    · intro h
      have hz : z = 2 := by simpa using h
      subst hz
      exact ⟨1, 2, by unfold EdgeG rowG; simp, eN1, eN2, by decide, by decide⟩
  have h1 : quotRow eG eS 1 = [] := List.eq_nil_iff_forall_not_mem.2 fun z hz => by
    obtain ⟨u, x, he, hu, _⟩ := quotRow_mem.1 hz
    rcases eE he with ⟨rfl, rfl⟩ | ⟨rfl, rfl⟩ | ⟨rfl, rfl⟩
    · rw [eN0] at hu; omega
    · rw [eN1] at hu; omega
    · rw [eN1] at hu; omega
  have h2 : quotRow eG eS 2 = [] := List.eq_nil_iff_forall_not_mem.2 fun z hz => by
    obtain ⟨u, x, he, hu, _⟩ := quotRow_mem.1 hz
    rcases eE he with ⟨rfl, rfl⟩ | ⟨rfl, rfl⟩ | ⟨rfl, rfl⟩
    · rw [eN0] at hu; omega
    · rw [eN1] at hu; omega
    · rw [eN1] at hu; omega
  show [quotRow eG eS 0, quotRow eG eS 1, quotRow eG eS 2] = _
  rw [h0, h1, h2]
end Go.Proofs.Ytfgpenekmokdiaa
namespace Go.Proofs.Ytfgpenekmokdiaa
open Go Go.RowKit Fl

def IntsRes (w : World) (l : List Int) (k : Int) (e : Ending) (w' : World) : Prop := ∃ A c, e = .returned (.tuple #[.slice A l.length c, .int .i64 k]) ∧ Holds w' A (l.map Iv) ∧ Below w.heap.size w w'
theorem IntsPost.res {w w' : World} {l : List Int} {k : Int} {e : Ending} (h : IntsPost w l k e w') : IntsRes w l k e w' := by
  obtain ⟨u, rfl, ho, hb⟩ := h
  obtain ⟨A, c, rfl, hr⟩ := own_is ho
  exact ⟨A, c, rfl, hr, hb⟩
theorem RowsPost.res {w w' : World} {l : GraphD} {k : Int} {e : Ending} (h : RowsPost w l k e w') : GraphRes w l k e w' := by
  obtain ⟨u, rfl, ho, hb⟩ := h
  obtain ⟨A, c, rfl, hr⟩ := ho.at_
  exact ⟨A, c, rfl, hr, hb⟩
/-! ### The example -/
theorem holds_blk {w : World} {n : Nat} {cs : Array Value} {e : TypeId} {fr : Nat × Nat} {l : List Value} (h : w.heap[n]? = some (.cells cs e fr)) (hl : cs.toList = l) : Holds w (some ⟨n, 0, none⟩) l := by
  subst hl
  exact .inr ⟨n, 0, rfl, block_lt h, fun j hj => by
    rw [cell_of_row w n _ cs e fr h]
    simp at hj
    simp [hj]⟩
theorem alloc4h (w : World) (o1 o2 o3 o4 : Obj) : ((((w.alloc o1).alloc o2).alloc o3).alloc o4).heap[w.heap.size]? = some o1 ∧ ((((w.alloc o1).alloc o2).alloc o3).alloc o4).heap[w.heap.size + 1]? = some o2 ∧ ((((w.alloc o1).alloc o2).alloc o3).alloc o4).heap[w.heap.size + 1 + 1]? = some o3 ∧ ((((w.alloc o1).alloc o2).alloc o3).alloc o4).heap[w.heap.size + 1 + 1 + 1]? = some o4 := by
  have e : ((((w.alloc o1).alloc o2).alloc o3).alloc o4).heap = (((w.heap.push o1).push o2).push o3).push o4 := rfl
  rw [e]
  refine ⟨?_, ?_, ?_, ?_⟩ <;> simp only [Array.getElem?_push, Array.size_push]
  · rw [if_neg (by omega), if_neg (by omega), if_neg (by omega), if_pos trivial]
  · rw [if_neg (by omega), if_neg (by omega), if_pos trivial]
  · rw [if_neg (by omega), if_pos trivial]
  · rw [if_pos trivial]
/-- Three rows of numbers, as literals lay them. -/
theorem rows3 (w : World) (n : Nat) (c1 c2 c3 : Array Value) (r1 r2 r3 : List Int) (k1 k2 k3 : Nat) (e1 e2 e3 e4 : TypeId) (h1 : c1.toList = r1.map Iv) (h2 : c2.toList = r2.map Iv) (h3 : c3.toList = r3.map Iv) (hn : n = w.heap.size) (l1 : k1 = r1.length) (l2 : k2 = r2.length) (l3 : k3 = r3.length) :
    RowsAt ((((w.alloc (.cells c1 e1)).alloc (.cells c2 e2)).alloc (.cells c3 e3)).alloc (.cells #[.slice (some ⟨n, 0, none⟩) k1 k1, .slice (some ⟨n + 1, 0, none⟩) k2 k2, .slice (some ⟨n + 1 + 1, 0, none⟩) k3 k3] e4)) (some ⟨n + 1 + 1 + 1, 0, none⟩) [r1, r2, r3] := by
  subst hn l1 l2 l3
  obtain ⟨b1, b2, b3, b4⟩ := alloc4h w (.cells c1 e1) (.cells c2 e2) (.cells c3 e3) (.cells #[.slice (some ⟨w.heap.size, 0, none⟩) r1.length r1.length, .slice (some ⟨w.heap.size + 1, 0, none⟩) r2.length r2.length, .slice (some ⟨w.heap.size + 1 + 1, 0, none⟩) r3.length r3.length] e4)
  generalize ((((w.alloc (.cells c1 e1)).alloc (.cells c2 e2)).alloc (.cells c3 e3)).alloc (.cells #[.slice (some ⟨w.heap.size, 0, none⟩) r1.length r1.length, .slice (some ⟨w.heap.size + 1, 0, none⟩) r2.length r2.length, .slice (some ⟨w.heap.size + 1 + 1, 0, none⟩) r3.length r3.length] e4)) = W at b1 b2 b3 b4 ⊢
  refine .inr ⟨w.heap.size + 1 + 1 + 1, 0, rfl, block_lt b4, fun k hk => ?_⟩
  have hk3 : k < 3 := hk
  match k, hk3 with
  | 0, _ => exact ⟨_, r1.length, by rw [cell_of_row W _ _ _ e4 _ b4]; rfl, holds_blk b1 h1⟩
  | 1, _ => exact ⟨_, r2.length, by rw [cell_of_row W _ _ _ e4 _ b4]; rfl, holds_blk b2 h2⟩
  | 2, _ => exact ⟨_, r3.length, by rw [cell_of_row W _ _ _ e4 _ b4]; rfl, holds_blk b3 h3⟩
theorem lit_holds (w : World) (n : Nat) (cs : Array Value) (e : TypeId) (l : List Value) (hn : n = w.heap.size) (hl : cs.toList = l) : Holds (w.alloc (.cells cs e)) (some ⟨n, 0, none⟩) l := by
  subst hn
  exact holds_blk (heap_alloc_new w _) hl
theorem below_alloc (w : World) (ob : Obj) : Below w.heap.size w (w.alloc ob) := (Below.refl _ _).alloc (Nat.le_refl _) _
theorem below_alloc4 (w : World) (o1 o2 o3 o4 : Obj) : Below w.heap.size w ((((w.alloc o1).alloc o2).alloc o3).alloc o4) := ((((Below.refl _ _).alloc (Nat.le_refl _) _).alloc (by simp) _).alloc (by simp; omega) _).alloc (by simp; omega) _
end Go.Proofs.Ytfgpenekmokdiaa
namespace Go.Proofs.Ytfgpenekmokdiaa
open Go Go.RowKit Fl

theorem own_cap {w : World} {base n : Nat} {e : TypeId} {v : Value} {xs : List Value} (h : w.ownsRow base e 1 v n xs) : ∃ A c, v = .slice A n c ∧ n ≤ c ∧ Holds w A xs := by
  have h0 := h
  obtain ⟨h1, h2⟩ := h
  rcases h2 with ⟨rfl, rfl⟩ | ⟨g, cap, cur, rfl, _, _, hc, _⟩
  · exact ⟨none, 0, rfl, Nat.le_refl _, ownsRow_holds h0⟩
  · exact ⟨_, cap, rfl, hc, ownsRow_holds h0⟩
def GirRes (w : World) (l : List Int) (k : Int) (e : Ending) (w' : World) : Prop := ∃ A c, l.length ≤ c ∧ e = .returned (.tuple #[.int .i64 l.length, .slice A l.length c, .int .i64 k]) ∧ Holds w' A (l.map Iv) ∧ Below w.heap.size w w'
theorem WalkPost.res {w w' : World} {l : List Int} {k : Int} {e : Ending} (h : WalkPost w l k e w') : GirRes w l k e w' := by
  obtain ⟨u, rfl, ho, hb⟩ := h
  obtain ⟨A, c, rfl, hc, hr⟩ := own_cap ho
  exact ⟨A, c, hc, rfl, hr, hb⟩
def DevGirth : Prop := ∀ (A B : Option Addr) (c d : Nat) (g : GraphD) (s : List Bool) (w : World), RowsAt w A g → Holds w B (s.map Bo) → Sized g →
  Calls Try.prog 30 #[.slice A g.length c, .slice B s.length d] w (GirRes w (girL g s) (chkG g s.length))
theorem girth_ok (h : DevGirth) {A B : Option Addr} {c d n : Nat} {g : GraphD} {s : List Bool} {W : World} (hr : RowsAt W A g) (hs : Holds W B (s.map Bo)) (hg : validG g = true) (hn : g.length = n) (hsl : s.length = n) :
    Calls Try.prog 30 #[.slice A n c, .slice B n d] W fun e w' => ∃ X cx, (girF g s).length ≤ cx ∧ e = .returned (.tuple #[.int .i64 (girF g s).length, .slice X (girF g s).length cx, .int .i64 0]) ∧ Holds w' X ((girF g s).map Iv) ∧ Below W.heap.size W w' := by
  have h := h A B c d g s W hr hs (Sized.valid hg)
  have h0 := chkG_ok (m := s.length) hg (by omega)
  have h1 : girL g s = girF g s := by unfold girL; rw [if_pos h0]
  rw [h1, h0, hsl, hn] at h
  exact h
theorem cls_of {g : GraphD} {s : List Bool} {l : List Int} (hg : validG g = true) (hsl : s.length = g.length) : clsB g s l = true ↔ ClosedL g s l := by
  rw [clsB_iff]
  exact ⟨fun h => h.2, fun h => ⟨chkG_ok hg hsl, h⟩⟩
abbrev tG : GraphD := [[1], [0, 2], [0]]
theorem tG_valid : validG tG = true := by decide
theorem t_gir : girF tG eS = [0, 1] := by decide
theorem t_thr : thrF tG eS 2 = [2, 0, 1] := by decide
theorem t_cls : clsB tG eS [0, 1] = true := (cls_of tG_valid rfl).2 (by
  have := gir_closed (g := tG) (s := eS) tG_valid (by rw [t_gir]; decide)
  rwa [t_gir] at this)
end Go.Proofs.Ytfgpenekmokdiaa
namespace Go.Proofs.Ytfgpenekmokdiaa
open Go Go.RowKit Fl

set_option maxRecDepth 100000 in
set_option maxHeartbeats 4000000 in
theorem on_c (A1 : Option Addr) (c1 : Nat) (ts : List Int) (v : Int) (w : World) (h1 : Holds w A1 (ts.map Iv)) (hl : ts.length ≤ 1000) :
    Calls Try.prog 40 #[.slice A1 ts.length c1, .int .i64 v] w fun e w' => e = .returned (.int .i64 (onF ts v)) ∧ w' = w := by
  have H1 := Lib.hid h1
  have H0 : Hid (onF ts v = onA (ts.drop 0) 0 v) := Lib.hid rfl
  clear h1
  go_enter Try.func40, Try.ntmps40
  go_wp2
  go_loop [5] (fun i => ∃ k : Nat, i = .int .i64 k ∧ k ≤ ts.length ∧ Hid (onF ts v = onA (ts.drop k) k v)) (fun i => ts.length - (intOf i).toNat)
  case atStart => exact ⟨0, rfl, Nat.zero_le _, H0⟩
  case round =>
    clear H0
    obtain ⟨k, rfl, hk, HK⟩ := hrel
    by_cases hlt : k < ts.length
    · obtain ⟨b1, o1, rfl, e1⟩ := H1.out.iv hlt
      have HD := Lib.hid (onA_drop (v := v) hlt)
      generalize ts[k] = x at *
      by_cases hx : x = v
      · have HE : Hid (onF ts v = (k : Int)) := Lib.hid (by rw [HK.out, HD.out, if_pos hx])
        subst hx
        clear HK HD
        go_wp2
        go_ret
        exact ⟨gr_int HE.out.symm, rfl⟩
      · have HE : Hid (onF ts v = onA (ts.drop (k + 1)) (k + 1) v) := Lib.hid (by rw [HK.out, HD.out, if_neg hx])
        have hx1 : (x == v) = false := by simpa using hx
        clear HK HD
        go_wp2
        go_round
        case rel => exact ⟨k + 1, by go_num, by omega, HE⟩
        case measure => simp [intOf]; omega
    · obtain rfl : k = ts.length := by omega
      have HE : Hid (onF ts v = -1) := Lib.hid (by rw [HK.out, List.drop_length]; rfl)
      clear HK
      go_wp2
      go_ret
      exact ⟨gr_int HE.out.symm, rfl⟩
set_option maxRecDepth 100000 in
set_option maxHeartbeats 4000000 in
theorem free_c (A1 A2 : Option Addr) (c1 c2 : Nat) (ts ws : List Int) (w : World) (h1 : Holds w A1 (ts.map Iv)) (h2 : Holds w A2 (ws.map Iv)) (hlen : ts.length = ws.length) (h24 : ts.length ≤ 24) :
    Calls Try.prog 37 #[.slice A1 ts.length c1, .slice A2 ws.length c2] w fun e w' => ∃ u, e = .returned u ∧ w'.ownsRow w.heap.size 3 1 u (freeL ts ws ts.length).length ((freeL ts ws ts.length).map Iv) ∧ Below w.heap.size w w' := by
  have H1 := Lib.hid h1
  have H2 := Lib.hid h2
  have HL := Lib.hid hlen
  clear h1 h2 hlen
  go_enter Try.func37, Try.ntmps37
  go_wp2
  go_loopw [5, 6] (fun v i wr => ∃ k : Nat, i = .int .i64 k ∧ k ≤ ts.length ∧ Hid (wr.ownsRow w.heap.size 3 1 v (freeL ts ws k).length ((freeL ts ws k).map Iv)) ∧ Hid (Below w.heap.size w wr)) (fun _ i _ => ts.length - (intOf i).toNat)
  case atStart => exact ⟨0, rfl, Nat.zero_le _, Lib.hid (World.ownsRow_nil _ _ _ _), Lib.hid (Below.refl _ _)⟩
  case round =>
    obtain ⟨k, rfl, hk, HO, HB⟩ := hrel
    by_cases hlt : k < ts.length
    · have hlw : k < ws.length := by rw [← HL.out]; exact hlt
      have HS := Lib.hid (freeL_succ ts ws k)
      rw [Fl.atI_get hlw] at HS
      have hfl := freeL_len ts ws k
      obtain ⟨b2, o2, rfl, e2⟩ := (H2.out.keep HB.out).iv hlw
      have CH := Lib.hid (fun x => has_c A1 c1 ts x wr (H1.out.keep HB.out) (by omega))
      generalize ws[k] = y at *
      by_cases hy : 0 ≤ y
      · by_cases hm : y ∈ ts
        · have HE : Hid (freeL ts ws (k + 1) = freeL ts ws k) := Lib.hid (by rw [HS.out, if_neg (fun h => h.2 hm), List.append_nil])
          have C1 := Lib.hid (CH.out y)
          rw [decide_eq_true hm] at C1
          clear HS CH hm
          go_wp2_with fail
          refine C1.out.mono ?_
          rintro e w2 ⟨rfl, rfl⟩
          go_wp2
          go_roundw
          case rel => exact ⟨k + 1, by go_num, by omega, Lib.hid (by rw [HE.out]; exact HO.out), HB⟩
          case measure => simp [intOf]; omega
        · have HE : Hid (freeL ts ws (k + 1) = freeL ts ws k ++ [(k : Int)]) := Lib.hid (by rw [HS.out, if_pos ⟨hy, hm⟩])
          have C1 := Lib.hid (CH.out y)
          rw [decide_eq_false hm] at C1
          have hb := own_base HO.out
          have hsz := HB.out.size
          clear HS CH hm
          generalize freeL ts ws k = xs at *
          go_wp2_with fail
          refine C1.out.mono ?_
          rintro e w2 ⟨rfl, rfl⟩
          go_wp2_with (at_builtin; refine app_int _ rfl _ _ rfl w.heap.size _ _ _ rfl (HO.out.alloc _) wr.heap.size k rfl (by simp [go_sem]) (by omega) (by simp; omega) ?_)
          intro v8 w8 own8 hg8
          have HB8 : Hid (Below w.heap.size w w8) := Lib.hid ((HB.out.alloc hsz _).grown hg8 (by simp; omega) (fun k hk => hb k hk))
          have HO8 : Hid (w8.ownsRow w.heap.size 3 1 v8 (freeL ts ws (k + 1)).length ((freeL ts ws (k + 1)).map Iv)) := Lib.hid (by rw [HE.out, List.length_append, List.map_append]; exact own8)
          clear own8 hg8 hb HO HB
          go_wp2
          go_roundw
          case rel => exact ⟨k + 1, by go_num, by omega, HO8, HB8⟩
          case measure => simp [intOf]; omega
      · have HE : Hid (freeL ts ws (k + 1) = freeL ts ws k) := Lib.hid (by rw [HS.out, if_neg (fun h => hy h.1), List.append_nil])
        clear HS CH
        go_wp2
        go_roundw
        case rel => exact ⟨k + 1, by go_num, by omega, Lib.hid (by rw [HE.out]; exact HO.out), HB⟩
        case measure => simp [intOf]; omega
    · obtain rfl : k = ts.length := by omega
      go_wp2
      go_ret
      exact ⟨_, rfl, HO.out, HB.out⟩
/-- What Free returns. -/
def FreePost (g : GraphD) (ts ws : List Int) (w : World) (e : Ending) (w' : World) : Prop := Below w.heap.size w w' ∧ if posB g ts ws then ∃ u, e = .returned (.tuple #[u, .int .i64 0]) ∧ w'.ownsRow w.heap.size 3 1 u (freeL ts ws ts.length).length ((freeL ts ws ts.length).map Iv) else e = .returned (.tuple #[.slice none 0 0, .int .i64 20])
set_option maxRecDepth 100000 in
set_option maxHeartbeats 4000000 in
theorem refFree_c (A A1 A2 : Option Addr) (c c1 c2 : Nat) (g : GraphD) (ts ws : List Int) (w : World) (hh : RowsAt w A g) (h1 : Holds w A1 (ts.map Iv)) (h2 : Holds w A2 (ws.map Iv)) (hcap : ts.length ≤ c1) (hl : g.length ≤ 1000000000000000000) (hr : ∀ r ∈ g, r.length ≤ 1000000000000000000) :
    Calls Try.prog 14 #[.slice A g.length c, .slice A1 ts.length c1, .slice A2 ws.length c2] w (FreePost g ts ws w) := by
  have CV := Lib.hid (pos_c A A1 A2 c c1 c2 g ts ws w hh h1 h2 hcap hl hr)
  have H1 := Lib.hid h1
  have H2 := Lib.hid h2
  clear hh h1 h2 hr
  unfold FreePost
  rcases hp : posB g ts ws with _ | _
  · rw [hp] at CV
    clear hp
    go_enter Try.func14, Try.ntmps14
    go_wp2_with fail
    refine CV.out.mono ?_
    rintro e w1 ⟨rfl, n, rfl⟩
    have HB := Lib.hid (below_drewN (Below.refl w.heap.size w) n)
    go_wp2
    go_ret2
    exact ⟨HB.out, rfl⟩
  · have hpo := posB_iff.1 hp
    have CF := Lib.hid (fun n => free_c A1 A2 c1 c2 ts ws (w.drewN n) (H1.out.drewN n) (H2.out.drewN n) hpo.len hpo.few)
    rw [hp] at CV
    clear hp hpo
    go_enter Try.func14, Try.ntmps14
    go_wp2_with fail
    refine CV.out.mono ?_
    rintro e w1 ⟨rfl, n, rfl⟩
    have HB := Lib.hid (below_drewN (Below.refl w.heap.size w) n)
    go_wp2_with fail
    refine (CF.out n).mono ?_
    rintro e w2 ⟨u, rfl, hu, hb⟩
    have HB2 := Lib.hid (HB.out.trans (hb.mono HB.out.size))
    have HU := Lib.hid hu
    clear hu hb CF CV
    go_wp2
    go_ret2
    exact ⟨HB2.out, _, rfl, HU.out⟩
set_option maxRecDepth 100000 in
set_option maxHeartbeats 4000000 in
theorem refStuck_c (A A1 A2 : Option Addr) (c c1 c2 : Nat) (g : GraphD) (ts ws : List Int) (w : World) (hh : RowsAt w A g) (h1 : Holds w A1 (ts.map Iv)) (h2 : Holds w A2 (ws.map Iv)) (hcap : ts.length ≤ c1) (hl : g.length ≤ 1000000000000000000) (hr : ∀ r ∈ g, r.length ≤ 1000000000000000000) :
    Calls Try.prog 20 #[.slice A g.length c, .slice A1 ts.length c1, .slice A2 ws.length c2] w fun e w' => e = .returned (.bool (stuckB g ts ws)) ∧ Below w.heap.size w w' := by
  have CV := Lib.hid (pos_c A A1 A2 c c1 c2 g ts ws w hh h1 h2 hcap hl hr)
  have H1 := Lib.hid h1
  have H2 := Lib.hid h2
  have HSt : Hid (stuckB g ts ws = (posB g ts ws && decide ((freeL ts ws ts.length).length = 0) && ws.any (fun x => decide (0 ≤ x)))) := Lib.hid rfl
  clear hh h1 h2 hr
  rcases hp : posB g ts ws with _ | _
  · have HE : Hid (stuckB g ts ws = false) := Lib.hid (by rw [HSt.out, hp]; rfl)
    rw [hp] at CV
    clear hp HSt
    go_enter Try.func20, Try.ntmps20
    go_wp2_with fail
    refine CV.out.mono ?_
    rintro e w1 ⟨rfl, n, rfl⟩
    have HB := Lib.hid (below_drewN (Below.refl w.heap.size w) n)
    go_wp2
    go_ret
    exact ⟨gr_bool HE.out.symm, HB.out⟩
  · have hpo := posB_iff.1 hp
    have hwl : ws.length ≤ 24 := by rw [← hpo.len]; exact hpo.few
    have CF := Lib.hid (fun n => free_c A1 A2 c1 c2 ts ws (w.drewN n) (H1.out.drewN n) (H2.out.drewN n) hpo.len hpo.few)
    have HFl := Lib.hid (freeL_len ts ws ts.length)
    have HFw := Lib.hid hpo.few
    rw [hp] at CV HSt
    rw [Bool.true_and] at HSt
    clear hp hpo
    generalize freeL ts ws ts.length = fr at *
    go_enter Try.func20, Try.ntmps20
    go_wp2_with fail
    refine CV.out.mono ?_
    rintro e w1 ⟨rfl, n, rfl⟩
    have HB := Lib.hid (below_drewN (Below.refl w.heap.size w) n)
    go_wp2_with fail
    refine (CF.out n).mono ?_
    rintro e w2 ⟨u, rfl, hu, hb⟩
    obtain ⟨A3, c3, rfl, _⟩ := own_is hu
    have HB2 := Lib.hid (HB.out.trans (hb.mono HB.out.size))
    have H22 := Lib.hid (H2.out.keep HB2.out)
    clear hu hb CF CV
    by_cases hf : fr.length = 0
    · have hf1 : ¬ ((0 : Int) < (fr.length : Int)) := by omega
      rw [decide_eq_true hf, Bool.true_and] at HSt
      clear hf HFl
      generalize fr.length = fl at *
      go_wp2
      go_loop [7] (fun i => ∃ k : Nat, i = .int .i64 k ∧ k ≤ ws.length ∧ Hid (∀ j (h : j < ws.length), j < k → ¬ 0 ≤ ws[j])) (fun i => ws.length - (intOf i).toNat)
      case atStart => exact ⟨0, rfl, Nat.zero_le _, Lib.hid (fun j _ h => by omega)⟩
      case round =>
        obtain ⟨k, rfl, hk, HK⟩ := hrel
        by_cases hlt : k < ws.length
        · obtain ⟨b2, o2, rfl, e2⟩ := H22.out.iv hlt
          by_cases hy : 0 ≤ ws[k]
          · have HE : Hid (stuckB g ts ws = true) := Lib.hid (by rw [HSt.out, List.any_eq_true]; exact ⟨_, List.getElem_mem hlt, decide_eq_true hy⟩)
            clear HK HSt
            generalize ws[k] = y at *
            go_wp2
            go_ret
            exact ⟨gr_bool HE.out.symm, HB2.out⟩
          · have HK2 : Hid (∀ j (h : j < ws.length), j < k + 1 → ¬ 0 ≤ ws[j]) := Lib.hid (fun j h hj => by
              rcases Nat.lt_succ_iff_lt_or_eq.1 hj with h3 | rfl
              · exact HK.out j h h3
              · exact hy)
            clear HK
            generalize ws[k] = y at *
            go_wp2
            go_round
            case rel => exact ⟨k + 1, by go_num, by omega, HK2⟩
            case measure => simp [intOf]; omega
        · have HE : Hid (stuckB g ts ws = false) := Lib.hid (by
            rw [HSt.out, List.any_eq_false]
            intro x hx
            obtain ⟨j, hj, rfl⟩ := List.mem_iff_getElem.1 hx
            simpa using HK.out j hj (by omega))
          clear HK HSt
          go_wp2
          go_ret
          exact ⟨gr_bool HE.out.symm, HB2.out⟩
    · have hf1 : (0 : Int) < (fr.length : Int) := by omega
      have HE : Hid (stuckB g ts ws = false) := Lib.hid (by rw [HSt.out, decide_eq_false hf]; rfl)
      clear hf HFl HSt
      generalize fr.length = fl at *
      go_wp2
      go_ret
      exact ⟨gr_bool HE.out.symm, HB2.out⟩
end Go.Proofs.Ytfgpenekmokdiaa
