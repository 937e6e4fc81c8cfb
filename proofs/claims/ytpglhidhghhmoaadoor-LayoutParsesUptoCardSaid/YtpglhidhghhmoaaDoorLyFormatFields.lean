/- Contract of layout.formatFields: a word, names, and numbers in decimal. -/
import Derived.Test.YtpglhidhghhmoaaDoorLyItoa
import Derived.Test.YtpglhidhghhmoaaDoorLyDecls
namespace Go.Proofs.YtpglhidhghhmoaaDoor
open Go.RowKit Fl
attribute [local go_sem] bget

def ClonePost (w : World) (fs : List (List UInt8)) (e : Ending) (w' : World) : Prop :=
  Below w.heap.size w w' ∧ ∃ g cap, e = .returned (.slice (some ⟨g, 0, none⟩) fs.length cap) ∧ w'.ownsRow w.heap.size 9 1 (.slice (some ⟨g, 0, none⟩) fs.length cap) fs.length (fs.map S)
set_option maxRecDepth 100000 in
set_option maxHeartbeats 2000000 in
theorem cloneAllS_c (A : Option Addr) (c : Nat) (fs : List (List UInt8)) (w : World) (hh : Holds w A (fs.map S)) (hl : fs.length ≤ 8796093021952) (hs : ∀ f ∈ fs, f.length ≤ 100000) :
    Calls Tryd.prog 40 #[.slice A fs.length c] w (ClonePost w fs) := by
  have HH := Lib.hid hh
  have HS := Lib.hid hs
  clear hh hs
  obtain ⟨i0, hi, hz0, hz1, hz2⟩ := info_parts Tryd.infoString
  go_enter Tryd.func40, Tryd.ntmps40
  go_wp2_with (refine wpList_make_own _ rfl _ _ 51 rfl w.heap.size 9 i0 (.string ByteArray.empty) 1 Tryd.underlying51 hi hz0 hz1 .i64 .i64 _ fs.length rfl rfl rfl (by rw [hz2]; omega) (by unfold maxLen; omega) (Nat.le_refl _) ?_)
  intro w1 own1 hg1
  have hb1 : Below w.heap.size w w1 := (Below.refl _ _).grown hg1 (Nat.le_refl _) (fun k hk => by cases hk)
  obtain ⟨g, hgg⟩ : ∃ g, g = w.heap.size := ⟨_, rfl⟩
  rw [← hgg] at own1 ⊢
  have HG := Lib.hid hgg
  clear hg1 hgg
  go_wp2
  go_loopw [3, 11] (fun v i wr => ∃ (k : Nat), v = .slice (some ⟨g, 0, none⟩) k fs.length ∧ i = .int .i64 k ∧ k ≤ fs.length ∧ Hid (wr.ownsRow w.heap.size 9 1 (.slice (some ⟨g, 0, none⟩) k fs.length) k ((fs.take k).map S)) ∧ Below w.heap.size w wr) (fun _ i _ => fs.length - (intOf i).toNat)
  case atStart => exact ⟨0, rfl, rfl, Nat.zero_le _, Lib.hid (ownsRow_base own1 (by have := HG.out; omega)), hb1⟩
  case round =>
    clear hb1 own1
    obtain ⟨k, rfl, rfl, hk, HO, hb⟩ := hrel
    by_cases hlt : k < fs.length
    · obtain ⟨b, o, rfl, hc⟩ := (HH.out.keep hb).str hlt
      have HN := Lib.hid (clone_c fs[k] wr (HS.out _ (List.getElem_mem hlt)))
      have HT := Lib.hid (List.take_succ_eq_append_getElem hlt)
      generalize fs[k] = s at *
      go_wp2_with fail
      refine HN.out.mono ?_
      rintro e w2 ⟨rfl, hb2⟩
      have own2 := ownsRow_below HO.out hb2
      clear HO
      go_wp2_with (at_builtin; refine wpList_append_fits _ rfl _ _ 51 rfl w.heap.size 9 i0 1 Tryd.underlying51 hi hz1 g k fs.length ((fs.take k).map S) rfl (own2.alloc _) ⟨w2.heap.size, 0, none⟩ 1 1 [S s] rfl rfl ?c1 ?c2 ?c3 ?_)
      case c1 =>
        intro j u hu
        rcases j with _ | j
        · simp at hu; subst hu; simp [go_sem]
        · simp at hu
      case c2 => intro u hu; simp at hu; subst hu; rfl
      case c3 => omega
      intro w3 own3 hg3
      have hb3 : Below w.heap.size w w3 := ((hb.trans (hb2.mono hb.size)).alloc (Nat.le_trans hb.size hb2.size) _).grown hg3 (by have := hb.size; have := hb2.size; simp; omega) (fun k hk => by injection hk with hk; have := HG.out; omega)
      have HO3 : Hid (w3.ownsRow w.heap.size 9 1 (.slice (some ⟨g, 0, none⟩) (k + 1) fs.length) (k + 1) ((fs.take (k + 1)).map S)) := Lib.hid (by rw [HT.out]; simpa using own3)
      clear own2 own3 hg3 hb hb2
      go_wp2
      go_roundw
      case rel => exact ⟨k + 1, by go_num, by go_num, by omega, HO3, hb3⟩
      case measure => simp [intOf]; omega
    · have HO2 : Hid (wr.ownsRow w.heap.size 9 1 (.slice (some ⟨g, 0, none⟩) fs.length fs.length) fs.length (fs.map S)) := Lib.hid (by
        have h := HO.out
        rw [show k = fs.length by omega, List.take_length] at h
        exact h)
      obtain rfl : k = fs.length := by omega
      go_wp2
      go_ret
      exact ⟨hb, _, _, rfl, HO2.out⟩
theorem mem_dec {zs : List Int} {k : Nat} (h : k < zs.length) : (zs.take (k + 1)).map dec = (zs.take k).map dec ++ [dec zs[k]] := by
  rw [List.take_succ_eq_append_getElem h, List.map_append]; rfl
set_option maxRecDepth 100000 in
set_option maxHeartbeats 4000000 in
theorem formatFields_c (t : List UInt8) (d : DeclD) (A1 A2 : Option Addr) (c1 c2 : Nat) (w : World) (hp : Pows w) (hn : Holds w A1 (d.names.map S)) (hx : Holds w A2 (d.nums.map I)) (hl1 : d.names.length ≤ 1000000000) (hl2 : d.nums.length ≤ 1000000000) (hs : ∀ f ∈ d.names, f.length ≤ 100000) (hz : ∀ z ∈ d.nums, -9223372036854775808 ≤ z ∧ z ≤ 9223372036854775807) :
    Calls Tryd.prog 30 #[.string ⟨t.toArray⟩, .agg #[.int .i64 d.word, .int .i64 d.line, .slice A1 d.names.length c1, .slice A2 d.nums.length c2]] w (StrsPost w (t :: d.names ++ d.nums.map dec)) := by
  obtain ⟨dw, dl, ns, xs⟩ := d
  simp only at hn hx hl1 hl2 hs hz ⊢
  have HP := Lib.hid hp
  have HX := Lib.hid hx
  have HZ := Lib.hid hz
  have HC := Lib.hid (fun W (hW : Below w.heap.size w W) => cloneAllS_c A1 c1 ns W (hn.keep hW) (by omega) hs)
  clear hp hn hx hs hz
  obtain ⟨ti, hti, hz0, hz1, hz2⟩ := info_parts Tryd.infoString
  have two : Below w.heap.size w ((w.alloc (.cells #[.int .i64 dw, .int .i64 dl, .slice A1 ns.length c1, .slice A2 xs.length c2] 53)).alloc (.cells #[S t] 9)) := ((Below.refl _ _).alloc (Nat.le_refl _) _).alloc (by simp) _
  have hD := heap_alloc2_old w (.cells #[.int .i64 dw, .int .i64 dl, .slice A1 ns.length c1, .slice A2 xs.length c2] 53) (.cells #[S t] 9)
  have hF := heap_alloc2_new w (.cells #[.int .i64 dw, .int .i64 dl, .slice A1 ns.length c1, .slice A2 xs.length c2] 53) (.cells #[S t] 9)
  go_enter Tryd.func30, Tryd.ntmps30
  go_wp2_with fail
  generalize (w.alloc (.cells #[.int .i64 dw, .int .i64 dl, .slice A1 ns.length c1, .slice A2 xs.length c2] 53)).alloc (.cells #[S t] 9) = W0 at *
  refine (HC.out W0 two).mono ?_
  rintro e w1 ⟨hb1, g, cap, rfl, hown⟩
  have hb01 := two.trans (hb1.mono two.size)
  have hF1 := (hb1.block _ (block_lt hF)).trans hF
  have hD1 := (hb1.block _ (block_lt hD)).trans hD
  have HD1 := Lib.hid hD1
  have hO1 : w1.ownsRow w.heap.size 9 1 (.slice (some ⟨w.heap.size + 1, 0, none⟩) 1 1) 1 ([t].map S) := ⟨rfl, .inr ⟨w.heap.size + 1, 1, _, rfl, by omega, hF1, Nat.le_refl _, by unfold maxLen; omega, rfl, rfl⟩⟩
  have HO1 := Lib.hid hO1
  have HOC := Lib.hid (hown.cells (g := g) rfl)
  have HB := Lib.hid hb01
  clear two hD hF hb1 hF1 hD1 hO1 hown hb01 HC
  go_wp2_with (at_builtin; refine wpList_append_own _ rfl _ _ 51 rfl w.heap.size 9 ti (.string ByteArray.empty) 1 16 Tryd.underlying51 hti hz0 hz1 hz2 rfl (by decide) _ _ _ rfl HO1.out ⟨g, 0, none⟩ ns.length cap (ns.map S) rfl (by simp) HOC.out ?c2 ?c3 ?c4 ?c5 ?_)
  case c2 => intro u hu; obtain ⟨f, _, rfl⟩ := List.mem_map.1 hu; rfl
  case c3 => unfold maxLen; omega
  case c4 => omega
  case c5 => exact HB.out.size
  intro v2 w2 own2 hg2 _
  have base1 := own_base HO1.out
  have hb2 : Below w.heap.size w w2 := HB.out.grown hg2 HB.out.size (fun k hk => by have := base1 k hk; omega)
  have hD2 := (hg2.block _ (block_lt HD1.out) (fun e => by simp [Value.ownBlock] at e)).trans HD1.out
  have x3 : w2.cell? ⟨w.heap.size, 3, none⟩ = some (.slice A2 xs.length c2) := by rw [cell_of_row _ _ 3 _ _ _ hD2]; rfl
  have HO2 : Hid (w2.ownsRow w.heap.size 9 1 v2 (1 + ns.length) ((t :: ns).map S)) := Lib.hid (by simpa using own2)
  clear hD2 own2 hg2 base1 HB HO1 HOC HD1
  go_wp2
  go_loopw [5, 18] (fun v i wr => ∃ k : Nat, i = .int .i64 k ∧ k ≤ xs.length ∧ Hid (wr.ownsRow w.heap.size 9 1 v (1 + ns.length + k) ((t :: ns ++ (xs.take k).map dec).map S)) ∧ Below w.heap.size w wr) (fun _ i _ => xs.length - (intOf i).toNat)
  case atStart => exact ⟨0, rfl, Nat.zero_le _, Lib.hid (by simpa using HO2.out), hb2⟩
  case round =>
    clear hb2 HO2 x3
    obtain ⟨k, rfl, hk, HO, hb⟩ := hrel
    by_cases hlt : k < xs.length
    · obtain ⟨b, o, rfl, hc⟩ := (HX.out.keep hb).int hlt
      obtain ⟨hz1', hz2'⟩ := HZ.out xs[k] (List.getElem_mem hlt)
      have HI := Lib.hid (itoa_c xs[k] wr hz1' hz2' (HP.out.keep hb))
      have HT := Lib.hid (mem_dec hlt)
      obtain ⟨ys, hys⟩ : ∃ ys, ys = t :: ns ++ (xs.take k).map dec := ⟨_, rfl⟩
      rw [← hys] at HO
      have HYS := Lib.hid hys
      clear hys
      generalize xs[k] = z at *
      go_wp2_with fail
      refine HI.out.mono ?_
      rintro e w3 ⟨rfl, hb3⟩
      have own3 := ownsRow_below HO.out hb3
      have base3 := own_base own3
      have hbw : Below w.heap.size w w3 := hb.trans (hb3.mono hb.size)
      generalize dec z = s at *
      clear HI HO hb3 hb hz1' hz2' hc
      go_wp2_with (at_builtin; refine wpList_append_own _ rfl _ _ 51 rfl w.heap.size 9 ti (.string ByteArray.empty) 1 16 Tryd.underlying51 hti hz0 hz1 hz2 rfl (by decide) _ _ _ rfl (own3.alloc _) ⟨w3.heap.size, 0, none⟩ 1 1 [S s] rfl rfl ?c1 ?c2 ?c3 ?c4 ?c5 ?_)
      case c1 =>
        intro j u hu
        rcases j with _ | j
        · simp at hu; subst hu; simp [go_sem]
        · simp at hu
      case c2 => intro u hu; simp at hu; subst hu; rfl
      case c3 => unfold maxLen; omega
      case c4 => omega
      case c5 => have := hbw.size; simp; omega
      intro v4 w4 own4 hg4 _
      have hb4 : Below w.heap.size w w4 := (hbw.alloc hbw.size _).grown hg4 (by have := hbw.size; simp; omega) base3
      have HO4 : Hid (w4.ownsRow w.heap.size 9 1 v4 (1 + ns.length + (k + 1)) ((t :: ns ++ (xs.take (k + 1)).map dec).map S)) := Lib.hid (by
        have e : (t :: ns ++ ((xs.take k).map dec ++ [s])).map S = ys.map S ++ [S s] := by rw [← List.append_assoc, ← HYS.out, List.map_append]; rfl
        rw [HT.out, e]
        exact own4)
      clear own4 hg4 own3 base3 hbw
      go_wp2
      go_roundw
      case rel => exact ⟨k + 1, by go_num, by omega, HO4, hb4⟩
      case measure => simp [intOf]; omega
    · obtain rfl : k = xs.length := by omega
      go_wp2
      go_ret
      refine ⟨hb, _, rfl, ?_⟩
      have h := HO.out
      rw [List.take_length] at h
      show World.ownsRow _ _ _ _ _ (t :: (ns ++ xs.map dec)).length _
      rw [show (t :: (ns ++ xs.map dec)).length = 1 + ns.length + xs.length by simp; omega]
      exact h
end Go.Proofs.YtpglhidhghhmoaaDoor
