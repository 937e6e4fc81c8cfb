/- Contract of the reference's Names of layer 5. -/
import Derived.Test.YtcljmgchghjncaaCpSpec
import Derived.Test.YtcljmgchghjncaaRcFrom
import Derived.Test.YtcljmgchghjncaaRhAll
import Derived.Test.YtcljmgchghjncaaRhBase
namespace Go.Proofs.Ytcljmgchghjncaa
open Go Go.RowKit Fl

/-- The list f 0, f 1, .. of n elements. -/
def mapR {α : Type} (n : Nat) (f : Nat → α) : List α := (List.range n).map f
theorem mapR_length {α : Type} (n : Nat) (f : Nat → α) : (mapR n f).length = n := by simp [mapR]
theorem mapR_at {α : Type} {n k : Nat} {f : Nat → α} (h : k < (mapR n f).length) : (mapR n f)[k] = f k := by simp [mapR]
theorem mapR_congr {α : Type} {n : Nat} {f f' : Nat → α} (h : ∀ i, i < n → f i = f' i) : mapR n f = mapR n f' := by
  unfold mapR
  exact List.map_congr_left fun i hi => h i (List.mem_range.1 hi)
theorem mapR_set {α : Type} {n k : Nat} {f f' : Nat → α} {z : α} (hz : f' k = z) (hf : ∀ i, i ≠ k → f' i = f i) : (mapR n f).set k z = mapR n f' := by
  refine List.ext_getElem (by simp [mapR]) fun i h1 h2 => ?_
  rw [List.getElem_set]
  by_cases h : k = i
  · subst h; rw [if_pos rfl, mapR_at, hz]
  · rw [if_neg h, mapR_at, mapR_at, hf i (fun e => h e.symm)]
theorem mapR_same {α : Type} (n : Nat) (z : α) : mapR n (fun _ => z) = List.replicate n z := by simp [mapR, List.map_const']
theorem reach_in {g : GraphD} {s : List Bool} {w : World} {b o a k : Nat} (h : Holds w (some ⟨b, o, none⟩) ((reachL g s a).map Bo)) (hk : k < g.length) : ∃ z, w.cell? ⟨b, o + k, none⟩ = some (.bool z) ∧ (z = true ↔ PathG g s a k) := by
  obtain ⟨b', o', z, hA, h1, h2⟩ := reach_at rfl h hk
  injection hA with hA
  injection hA with e1 e2
  subst e1 e2
  exact ⟨z, h1, h2⟩
/-- out, when vertices before v have their names, and v has z. -/
noncomputable def nmF (g : GraphD) (s : List Bool) (v : Nat) (z : Int) (x : Nat) : Int := if x < v then nameOf g s x else if x = v then z else 0
theorem nmF_start (g : GraphD) (s : List Bool) : mapR g.length (nmF g s 0 0) = List.replicate g.length 0 := by
  rw [← mapR_same]
  exact mapR_congr fun i _ => by unfold nmF; rw [if_neg (by omega)]; split <;> rfl
theorem nmF_put {g : GraphD} {s : List Bool} {v : Nat} {z z' : Int} : (mapR g.length (nmF g s v z)).set v z' = mapR g.length (nmF g s v z') :=
  mapR_set (by unfold nmF; rw [if_neg (by omega), if_pos rfl]) fun i hi => by unfold nmF; rw [if_neg hi, if_neg hi]
theorem nmF_next {g : GraphD} {s : List Bool} {v : Nat} {z : Int} (hz : z = nameOf g s v) : mapR g.length (nmF g s v z) = mapR g.length (nmF g s (v + 1) 0) := mapR_congr fun i _ => by
  unfold nmF
  by_cases h1 : i < v
  · rw [if_pos h1, if_pos (by omega)]
  · by_cases h2 : i = v
    · subst h2; rw [if_neg h1, if_pos rfl, if_pos (by omega), hz]
    · rw [if_neg h1, if_neg h2, if_neg (by omega)]; split <;> rfl
theorem nmF_end (g : GraphD) (s : List Bool) : mapR g.length (nmF g s g.length 0) = namesL g s := by
  unfold namesL mapR
  exact List.map_congr_left fun i hi => by unfold nmF; rw [if_pos (List.mem_range.1 hi)]
/-- What is known of z, the name of v so far, when the vertices before k are tried. -/
def NmRel (g : GraphD) (s : List Bool) (v k : Nat) (z : Int) : Prop := (z = -1 ∧ k ≤ v + 1 ∧ ∀ u, u < k → ¬ both g s v u) ∨ (z = nameOf g s v ∧ 0 ≤ z)
theorem NmRel.start (g : GraphD) (s : List Bool) (v : Nat) : NmRel g s v 0 (-1) := .inl ⟨rfl, by omega, fun u hu => by omega⟩
theorem NmRel.no {g : GraphD} {s : List Bool} {v k : Nat} (h : NmRel g s v k (-1)) (hk : k ≤ v) (hn : ¬ both g s v k) : NmRel g s v (k + 1) (-1) := by
  rcases h with ⟨_, h1, h2⟩ | ⟨h1, h2⟩
  · refine .inl ⟨rfl, by omega, fun u hu => ?_⟩
    rcases Nat.lt_succ_iff_lt_or_eq.1 hu with h | rfl
    · exact h2 u h
    · exact hn
  · omega
theorem NmRel.yes {g : GraphD} {s : List Bool} {v k : Nat} (h : NmRel g s v k (-1)) (hy : both g s v k) : NmRel g s v (k + 1) k := by
  rcases h with ⟨_, h1, h2⟩ | ⟨h1, h2⟩
  · refine .inr ⟨?_, by omega⟩
    rcases name_cases g s v with ⟨_, h3⟩ | ⟨w, h3, _, h4, h5⟩
    · exact absurd hy.1.left h3
    · rw [h3]
      have h6 : ¬ w < k := fun hl => h2 w hl h4
      have h7 : ¬ k < w := fun hl => h5 k hl hy
      omega
  · omega
theorem NmRel.done {g : GraphD} {s : List Bool} {v k : Nat} {z : Int} (h : NmRel g s v k z) (hd : ¬ (k ≤ v ∧ z < 0)) : z = nameOf g s v := by
  rcases h with ⟨h0, h1, h2⟩ | ⟨h1, h2⟩
  · rcases name_cases g s v with ⟨h3, _⟩ | ⟨w, h3, h4, h5, _⟩
    · rw [h0, h3]
    · exact absurd h5 (h2 w (by omega))
  · exact h1
def IntsPost (w : World) (l : List Int) (k : Int) (e : Ending) (w' : World) : Prop := ∃ u, e = .returned (.tuple #[u, .int .i64 k]) ∧ w'.ownsRow w.heap.size 3 1 u l.length (l.map Iv) ∧ Below w.heap.size w w'
open Classical in
noncomputable def nmL (g : GraphD) (s : List Bool) : List Int := if chkG g s.length = 0 then namesL g s else []
set_option maxRecDepth 100000 in
set_option maxHeartbeats 8000000 in
theorem refNames_c (A B : Option Addr) (c d : Nat) (g : GraphD) (s : List Bool) (w : World) (hh : RowsAt w A g) (hs : Holds w B (s.map Bo)) (hz : Sized g) :
    Calls Try.prog 11 #[.slice A g.length c, .slice B s.length d] w (IntsPost w (nmL g s) (chkG g s.length)) := by
  have CC := Lib.hid (refCheck_c A B c d s.length g w hh hz.1 hz.2)
  by_cases h0 : chkG g s.length = 0
  · have hv : validG g = true ∧ s.length = g.length := by
      rcases chkG_cases g s.length with h | h | h
      · exact h.2
      · omega
      · omega
    have HE : Hid (nmL g s = namesL g s) := Lib.hid (by unfold nmL; rw [if_pos h0])
    rw [h0] at CC ⊢
    have hl24 := validG_len hv.1
    have CR := Lib.hid (fun W (v : Nat) (hW : Below w.heap.size w W) hvn => reach_c A B c d g s v W (hh.keep hW) (hs.keep hW) hv.1 hv.2 hvn)
    have HA0 := Lib.hid (AllAt.nil w w.heap.size g s)
    clear hh hs hz h0 hv
    go_enter Try.func11, Try.ntmps11
    go_wp2_with fail
    refine CC.out.mono ?_
    rintro e w1 ⟨rfl, rfl⟩
    clear CC
    go_wp2
    obtain ⟨base, hb1, hb2⟩ : ∃ base, base ≤ w.heap.size ∧ w.heap.size ≤ base := ⟨w.heap.size, Nat.le_refl _, Nat.le_refl _⟩
    have HA1 : Hid (AllAt w base (.slice none 0 0) g s 0) := Lib.hid (AllAt.nil w base g s)
    clear HA0
    go_loopw [7, 8] (fun al i wr => ∃ u : Nat, i = .int .i64 u ∧ u ≤ g.length ∧ Hid (AllAt wr base al g s u) ∧ Hid (Below w.heap.size w wr)) (fun _ i _ => g.length - (intOf i).toNat)
    case atStart => exact ⟨0, rfl, Nat.zero_le _, HA1, Lib.hid (Below.refl _ _)⟩
    case round =>
      clear HA1
      obtain ⟨u, rfl, hu, HAl, HW⟩ := hrel
      by_cases hlt : u < g.length
      · go_wp2_with fail
        refine (CR.out wr u HW.out hlt).mono ?_
        rintro e w8 ⟨x, rfl, hox, hb8⟩
        obtain ⟨gx, cx, rfl, hgx, _⟩ := own_at hox (by omega)
        have hws := HW.out.size
        have HW8 := Lib.hid (HW.out.trans (hb8.mono HW.out.size))
        have HAl8 := Lib.hid (HAl.out.keep hb8)
        have HOx : Hid (w8.ownsRow base 4 1 (.slice (some ⟨gx, 0, none⟩) g.length cx) g.length ((reachL g s u).map Bo)) := Lib.hid (by
          obtain ⟨h1, h2⟩ := hox
          refine ⟨h1, ?_⟩
          rcases h2 with h2 | ⟨g', cap, cur, hv', hg', hr'⟩
          · exact .inl h2
          · exact .inr ⟨g', cap, cur, hv', by omega, hr'⟩)
        have hs8 : base ≤ w8.heap.size := by have := hb8.size; omega
        clear hox hb8 HAl HW hgx hws
        obtain ⟨vs, hvl, hvo, hvr⟩ := HAl8.out
        have HVO := Lib.hid (fun ob => hvo.alloc ob)
        have HVR := Lib.hid (fun ob j x hx => (hvr j x hx).alloc ob)
        have HOxA := Lib.hid (fun ob => HOx.out.alloc ob)
        have HVL := Lib.hid hvl
        have HBa := Lib.hid (own_base hvo)
        clear hvl hvo hvr HAl8 HOx
        go_wp2_with (at_builtin; refine app_any _ rfl _ _ 49 23 (.slice none 0 0) 24 Try.underlying49 Try.infoBools rfl (by decide) rfl base _ u vs rfl (HVO.out _) _ (.slice (some ⟨gx, 0, none⟩) g.length cx) rfl (by rw [cell_of_row _ _ 0 _ _ _ (heap_alloc_new w8 _)]; rfl) rfl (by omega) (by simp; omega) ?_)
        intro v' w' hown hgrow
        have HAl2 := Lib.hid (AllAt.app HVL.out (HVO.out _) (HVR.out _) (HOxA.out _) hgrow hown)
        have HW2 : Hid (Below w.heap.size w w') := Lib.hid (HW8.out.trans (((Below.refl w.heap.size w8).alloc HW8.out.size _).grown hgrow (by have := HW8.out.size; simp; omega) (fun k hk => by have := HBa.out k hk; omega)))
        clear hown hgrow HVO HVR HOxA HVL HBa HW8 hs8
        go_wp2
        go_roundw
        case rel => exact ⟨u + 1, by go_num, by omega, HAl2, HW2⟩
        case measure => simp [intOf]; omega
      · obtain rfl : u = g.length := by omega
        clear CR
        go_wp2_with (refine make_any _ rfl _ _ 24 3 (.int .i64 0) 8 Try.underlying24 Try.infoIntG rfl (by decide) rfl .i64 .i64 _ _ g.length rfl rfl rfl rfl (by omega) ?_)
        intro w3 own3 hb3
        obtain ⟨wm, hwm⟩ : ∃ wm, wm = wr := ⟨_, rfl⟩
        rw [← hwm] at own3 hb3 HW HAl ⊢
        clear hwm
        obtain ⟨G, hG⟩ : ∃ G, G = wm.heap.size := ⟨_, rfl⟩
        have HO3 : Hid (w3.ownsRow G 3 1 (.slice (some ⟨G, 0, none⟩) g.length g.length) g.length ((mapR g.length (nmF g s 0 0)).map Iv)) := Lib.hid (by rw [nmF_start, List.map_replicate, hG]; exact own3)
        have HB3 : Hid (Below G wm w3) := Lib.hid (by rw [hG]; exact hb3)
        have HKeep := Lib.hid (fun W (hW : Below G wm W) => HAl.out.keep (w' := W) (by rw [← hG]; exact hW))
        have HWG : Hid (w.heap.size ≤ G) := Lib.hid (by rw [hG]; exact HW.out.size)
        rw [← hG]
        clear own3 hb3 hG HAl
        go_wp2
        go_loopw [10] (fun i wr => ∃ v : Nat, i = .int .i64 v ∧ v ≤ g.length ∧ Hid (wr.ownsRow G 3 1 (.slice (some ⟨G, 0, none⟩) g.length g.length) g.length ((mapR g.length (nmF g s v 0)).map Iv)) ∧ Hid (Below G wm wr)) (fun i _ => g.length - (intOf i).toNat)
        case atStart => exact ⟨0, rfl, Nat.zero_le _, HO3, HB3⟩
        case round =>
          clear HO3 HB3
          obtain ⟨v, rfl, hv, HO, HB⟩ := hrel
          by_cases hvt : v < g.length
          · obtain ⟨q, cap, rfl⟩ := (HKeep.out _ HB.out).form (by omega)
            obtain ⟨cu, c1, f1⟩ : ∃ cu, wr.cell? ⟨G, v, none⟩ = some cu ∧ wr.frozen? ⟨G, v, none⟩ = false := ⟨_, own_get HO.out (i := v) (u := Iv (nmF g s v 0 v)) (by rw [List.getElem?_map, List.getElem?_eq_getElem (by rw [mapR_length]; exact hvt), mapR_at]; rfl)⟩
            have HO2 : Hid ((wr.setCell ⟨G, v, none⟩ (.int .i64 (-1))).ownsRow G 3 1 (.slice (some ⟨G, 0, none⟩) g.length g.length) g.length ((mapR g.length (nmF g s v (-1))).map Iv)) := Lib.hid (by rw [← nmF_put (z := 0), List.map_set]; exact own_put HO.out)
            have HB2 := Lib.hid (below_put (i := v) (v := .int .i64 (-1)) HB.out (Nat.le_refl G))
            clear HO HB
            go_wp2
            clear c1 f1
            generalize wr.setCell ⟨G, v, none⟩ (.int .i64 (-1)) = w5 at *
            go_loopw [11] (fun i wr => ∃ (k : Nat) (z : Int), i = .int .i64 k ∧ Hid (NmRel g s v k z) ∧ k ≤ v + 1 ∧ Hid (wr.ownsRow G 3 1 (.slice (some ⟨G, 0, none⟩) g.length g.length) g.length ((mapR g.length (nmF g s v z)).map Iv)) ∧ Hid (Below G wm wr)) (fun i _ => v + 1 - (intOf i).toNat)
            case atStart => exact ⟨0, -1, rfl, Lib.hid (.start g s v), by omega, HO2, HB2⟩
            case round =>
              clear HO2 HB2
              obtain ⟨k, z, rfl, HR, hk, HO, HB⟩ := hrel
              obtain ⟨e1, f1⟩ := own_get HO.out (i := v) (u := Iv z) (by rw [List.getElem?_map, List.getElem?_eq_getElem (by rw [mapR_length]; exact hvt), mapR_at]; unfold nmF; rw [if_neg (by omega), if_pos rfl]; rfl)
              by_cases hkv : k ≤ v
              · rcases Int.lt_or_le z 0 with hz0 | hz0
                · have hzm : z = -1 := by
                    rcases HR.out with ⟨h, _⟩ | ⟨_, h⟩ <;> omega
                  subst hzm
                  have hkn : k < g.length := by omega
                  have HAl := Lib.hid (HKeep.out _ HB.out)
                  obtain ⟨X, cx, ex, hX⟩ := HAl.out.at_ hvt
                  obtain ⟨bx, ox, _, rfl, _, _⟩ := reach_at rfl hX hvt
                  obtain ⟨p1, e2, hp1⟩ := reach_in hX hkn
                  obtain ⟨Y, cy, ey, hY⟩ := HAl.out.at_ hkn
                  obtain ⟨by_, oy, _, rfl, _, _⟩ := reach_at rfl hY hkn
                  obtain ⟨p2, e3, hp2⟩ := reach_in hY hvt
                  have hcase : (p1 = false ∧ ¬ both g s v k) ∨ (p1 = true ∧ p2 = false ∧ ¬ both g s v k) ∨ (p1 = true ∧ p2 = true ∧ both g s v k) := by
                    rcases h1 : p1 with _ | _
                    · exact .inl ⟨rfl, fun h => by have := hp1.2 h.1; rw [h1] at this; cases this⟩
                    · rcases h2 : p2 with _ | _
                      · exact .inr (.inl ⟨rfl, rfl, fun h => by have := hp2.2 h.2; rw [h2] at this; cases this⟩)
                      · exact .inr (.inr ⟨rfl, rfl, hp1.1 h1, hp2.1 h2⟩)
                  clear hp1 hp2 hX hY HAl
                  rcases hcase with ⟨rfl, hno⟩ | ⟨rfl, rfl, hno⟩ | ⟨rfl, rfl, hy⟩
                  · have HR2 := Lib.hid (HR.out.no hkv hno)
                    clear HR hno
                    go_wp2
                    go_roundw
                    case rel => exact ⟨k + 1, -1, by go_num, HR2, by omega, HO, HB⟩
                    case measure => simp [intOf]; omega
                  · have HR2 := Lib.hid (HR.out.no hkv hno)
                    clear HR hno
                    go_wp2
                    go_roundw
                    case rel => exact ⟨k + 1, -1, by go_num, HR2, by omega, HO, HB⟩
                    case measure => simp [intOf]; omega
                  · have HR2 := Lib.hid (HR.out.yes hy)
                    have HO2 : Hid ((wr.setCell ⟨G, v, none⟩ (.int .i64 k)).ownsRow G 3 1 (.slice (some ⟨G, 0, none⟩) g.length g.length) g.length ((mapR g.length (nmF g s v k)).map Iv)) := Lib.hid (by rw [← nmF_put (z := -1), List.map_set]; exact own_put HO.out)
                    have HB2 := Lib.hid (below_put (i := v) (v := .int .i64 k) HB.out (Nat.le_refl G))
                    clear HR hy HO HB
                    go_wp2
                    go_roundw
                    case rel => exact ⟨k + 1, k, by go_num, HR2, by omega, HO2, HB2⟩
                    case measure => simp [intOf]; omega
                · have HD := Lib.hid (HR.out.done (fun h => by omega))
                  have HO2 : Hid (wr.ownsRow G 3 1 (.slice (some ⟨G, 0, none⟩) g.length g.length) g.length ((mapR g.length (nmF g s (v + 1) 0)).map Iv)) := Lib.hid (by rw [← nmF_next HD.out]; exact HO.out)
                  have hd : decide (z < 0) = false := by simp; omega
                  clear HR HO HD
                  go_wp2
                  go_roundw
                  case rel => exact ⟨v + 1, by go_num, by omega, HO2, HB⟩
                  case measure => simp [intOf]; omega
              · have HD := Lib.hid (HR.out.done (fun h => by omega))
                have HO2 : Hid (wr.ownsRow G 3 1 (.slice (some ⟨G, 0, none⟩) g.length g.length) g.length ((mapR g.length (nmF g s (v + 1) 0)).map Iv)) := Lib.hid (by rw [← nmF_next HD.out]; exact HO.out)
                have hd : decide ((k : Int) ≤ (v : Int)) = false := by simp; omega
                clear HR HO HD
                go_wp2
                go_roundw
                case rel => exact ⟨v + 1, by go_num, by omega, HO2, HB⟩
                case measure => simp [intOf]; omega
          · obtain rfl : v = g.length := by omega
            have HO2 : Hid (wr.ownsRow w.heap.size 3 1 (.slice (some ⟨G, 0, none⟩) g.length g.length) g.length ((namesL g s).map Iv)) := Lib.hid (by
              obtain ⟨h1, h2⟩ := HO.out
              rw [nmF_end] at h1 h2
              refine ⟨h1, ?_⟩
              rcases h2 with h2 | ⟨g', cap', cur, hv', hg', hr'⟩
              · exact .inl h2
              · exact .inr ⟨g', cap', cur, hv', by have := HWG.out; omega, hr'⟩)
            have HBx := Lib.hid (HW.out.trans (HB.out.mono HWG.out))
            clear HO HB
            go_wp2
            go_ret2
            exact ⟨_, rfl, by rw [HE.out, namesL_length]; exact HO2.out, HBx.out⟩
  · have HE : Hid (nmL g s = []) := Lib.hid (by unfold nmL; rw [if_neg h0])
    have hcase : chkG g s.length = 19 ∨ chkG g s.length = 20 := by
      rcases chkG_cases g s.length with h | h | h
      · exact absurd h.1 h0
      · exact .inl h
      · exact .inr h
    clear hh hs hz h0
    rcases hcase with h | h
    all_goals
      rw [h] at CC ⊢
      clear h
      go_enter Try.func11, Try.ntmps11
      go_wp2_with fail
      refine CC.out.mono ?_
      rintro e w1 ⟨rfl, rfl⟩
      go_wp2
      go_ret2
      exact ⟨_, rfl, by rw [HE.out]; exact World.ownsRow_nil _ _ _ _, Below.refl _ _⟩
end Go.Proofs.Ytcljmgchghjncaa
