/- Joined texts. -/
import Derived.Test.YtjbhmeeebacnpaaMzAT
import Derived.Lib.SliceRun
import Derived.Deep.RegionHeld3
import Derived.Deep.DeepCutAuto
namespace Go.Proofs.Ytjbhmeeebacnpaa
open Go Go.RowKit Fl

set_option maxRecDepth 100000 in
set_option maxHeartbeats 2000000 in
theorem cloneB_c (A : Option Addr) (c : Nat) (l : List BodD) (w : World) (hh : Holds w A (bodS.cs l)) (hl : l.length ≤ 5864062014805) :
    Calls Try.prog 54 #[.slice A l.length c] w fun e w' => ∃ u, e = .returned u ∧ bodS.Own w' w.heap.size u l ∧ Below w.heap.size w w' := by
  have hq : ∀ (w : World) (a : Option Addr) (n c n' c' : Nat), (binOp .eql 30 (.slice a n c) (.slice none n' c')).run Try.prog w = .ok (.bool a.isNone) w := fun w a n c n' c' => Lib.run_eql_slice_nil w _ _ a n c n' c' Try.underlying30
  rcases A with _ | ad
  · have hl0 : l = [] := by
      rcases hh with h | ⟨b', o', hA, _⟩
      · have h1 := congrArg List.length h
        rw [bodS.cs_length] at h1
        simp only [List.length_nil] at h1
        rcases Nat.mul_eq_zero.1 h1 with h2 | h2
        · exact List.eq_nil_of_length_eq_zero h2
        · exact absurd h2 (by decide)
      · cases hA
    subst hl0
    have HB := Lib.hid (Below.refl w.heap.size w)
    clear hh
    go_enter Try.func54, Try.ntmps54
    go_wp2
    go_ret
    exact ⟨_, rfl, StK.Own.nil _ _ _, HB.out⟩
  · have HB0 := Lib.hid (below_newB w (.cells #[] 40))
    have HA : Hid (bodS.Arg (w.alloc (.cells #[] 40)) (.slice (some ad) l.length c) l) := Lib.hid (StK.Arg.all (hh.keep HB0.out) c)
    have HO : Hid (bodS.Own (w.alloc (.cells #[] 40)) w.heap.size (.slice (some ⟨w.heap.size, 0, none⟩) 0 0) []) := Lib.hid (World.ownsRow_made w #[] 0 (Nat.le_refl _) (Nat.zero_le _) rfl)
    have hs : w.heap.size ≤ (w.alloc (.cells #[] 40)).heap.size := by simp
    clear hh
    go_enter Try.func54, Try.ntmps54
    go_wp2_with (at_builtin; refine StK.app_moreB (S := bodS) _ rfl _ _ (by rfl) w.heap.size _ [] (by rfl) HO.out _ l (by rfl) HA.out (by simp; unfold maxLen; omega) (by rw [show bodS.bytes = 24 from rfl]; simp; omega) hs ?_)
    intro v2 w2 hO2 hg2
    have HO2 : Hid (bodS.Own w2 w.heap.size v2 l) := Lib.hid hO2
    have HB2 := Lib.hid (HB0.out.grown hg2 hs (fun k hk => by simp [Value.ownBlock] at hk; omega))
    clear hO2 hg2
    go_wp2
    go_ret
    exact ⟨v2, rfl, HO2.out, HB2.out⟩
/-- What change returns, of an action that gives q and ok. -/
def chE (l : List BodD) (r : Int) (ok : Bool) : Int := if 0 ≤ r ∧ r < (l.length : Int) then (if ok = true then 0 else 24) else 19
def chL (l : List BodD) (r : Int) (q : BodD) (ok : Bool) : List BodD := if 0 ≤ r ∧ r < (l.length : Int) then (if ok = true then l.set r.toNat q else []) else []
/-- A function of the program is entered. -/
def Enters (F : Nat) : Prop := ∀ (args : Array Value) (W : World), (callFunc F args).run Try.prog W = .ok (.enter F args) W
theorem enters {F : Nat} {fn : Func} {c : Code} (hf : Try.prog.funcs[F]? = some fn) (hname : (fn.name == "runtime.NumGoroutine") = false) (hb : fn.body = some c) : Enters F := fun args W => by
  have h1 : fn.name ≠ "runtime.NumGoroutine" := by simpa using hname
  simp [callFunc, hf, h1, hb]
set_option maxRecDepth 100000 in
set_option maxHeartbeats 4000000 in
theorem devChange_c (A : Option Addr) (cap n : Nat) (l : List BodD) (hn : l.length = n) (r : Int) (F : Nat) (caps : Array Value) (q : BodD) (ok : Bool) (w : World) (hh : Holds w A (bodS.cs l)) (hn6 : n ≤ 5864062014805) (hcf : Enters F)
    (hF : ∀ W, Below w.heap.size w W → Calls Try.prog F (#[BV (bodAt l r)] ++ caps) W fun e w' => e = .returned (.tuple #[BV q, .bool ok]) ∧ Below W.heap.size W w') :
    Calls Try.prog 35 #[.slice A n cap, .int .i64 r, .func (.func F) #[] caps] w
      fun e w' => ∃ v, e = .returned (.tuple #[v, .int .i64 (chE l r ok)]) ∧ bodS.Own w' w.heap.size v (chL l r q ok) ∧ Below w.heap.size w w' := by
  subst hn
  have HB0 := Lib.hid (Below.refl w.heap.size w)
  by_cases hr : 0 ≤ r ∧ r < (l.length : Int)
  · obtain ⟨E, hE⟩ : ∃ E, chE l r ok = E := ⟨_, rfl⟩
    obtain ⟨L, hL⟩ : ∃ L, chL l r q ok = L := ⟨_, rfl⟩
    rw [hE, hL]
    unfold chE at hE
    unfold chL at hL
    rw [if_pos hr] at hE hL
    obtain ⟨r0, rn⟩ := hr
    obtain ⟨i, rfl⟩ := Int.eq_ofNat_of_zero_le r0
    have hi : i < l.length := by omega
    rw [Int.toNat_natCast] at hL
    obtain ⟨b, o, rfl, _, a1⟩ := StK.holds_at hh hi
    rw [← bodAt_nat hi] at a1
    obtain ⟨x0, x1, x2, x3⟩ := bod_cells a1
    have HF := Lib.hid hF
    have HH := Lib.hid hh
    have HE := Lib.hid hE
    have HL := Lib.hid hL
    clear hF hE hL a1
    generalize bodAt l i = f at *
    obtain ⟨cel, dst, srv, flt⟩ := f
    obtain ⟨qc, qd, qs, qf⟩ := q
    rw [show bodS.k = 4 from rfl] at x0 x1 x2 x3
    dsimp only at x0 x1 x2 x3
    clear hh
    go_enter Try.func35, Try.ntmps35
    go_wp2_with fail
    rw [hcf]
    refine Calls.mono (HF.out _ (Below.refl _ _)) ?_
    rintro e w2 ⟨rfl, hb2⟩
    have HB2 : Hid (Below w.heap.size w (w2.alloc (.cells #[.int .i64 qc, .int .i64 qd, .bool qs, .bool qf] 40))) := Lib.hid (hb2.alloc hb2.size _)
    have HX2 : Hid (BodAt (w2.alloc (.cells #[.int .i64 qc, .int .i64 qd, .bool qs, .bool qf] 40)) w2.heap.size ⟨qc, qd, qs, qf⟩) := Lib.hid (heap_alloc_new w2 _)
    clear hb2 hcf HF x0 x1 x2 x3
    rcases ok with _ | _
    · obtain rfl : 24 = E := HE.out
      obtain rfl : [] = L := HL.out
      clear HE HL
      go_wp2
      go_ret2
      exact ⟨_, rfl, StK.Own.nil _ _ _, HB2.out⟩
    · obtain rfl : 0 = E := HE.out
      obtain rfl : l.set i ⟨qc, qd, qs, qf⟩ = L := HL.out
      clear HE HL
      go_wp2_with fail
      generalize w2.alloc (.cells #[.int .i64 qc, .int .i64 qd, .bool qs, .bool qf] 40) = w3 at *
      generalize w2.heap.size = Y at *
      refine (cloneB_c (some ⟨b, o, none⟩) cap l w3 (HH.out.keep HB2.out) hn6).mono ?_
      rintro e w4 ⟨u, rfl, hO4, hb4⟩
      have hO := hO4.base HB2.out.size
      obtain ⟨g, c2, rfl, hbg, hgw⟩ := hO.blk (by omega)
      have HB4 := Lib.hid (HB2.out.trans (hb4.mono HB2.out.size))
      have HX4 : Hid (BodAt w4 Y ⟨qc, qd, qs, qf⟩) := Lib.hid (HX2.out.keep hb4)
      obtain ⟨y0, y1, y2, y3⟩ := HX4.out.cell
      obtain ⟨ha, hf⟩ := hO.get rfl hi
      obtain ⟨v0, v1, v2, v3⟩ := bod_cells ha
      have f0 : w4.frozen? ⟨g, i * 4, none⟩ = false := hf 0 (by decide)
      have f1 : w4.frozen? ⟨g, i * 4 + 1, none⟩ = false := hf 1 (by decide)
      have f2 : w4.frozen? ⟨g, i * 4 + 2, none⟩ = false := hf 2 (by decide)
      have f3 : w4.frozen? ⟨g, i * 4 + 3, none⟩ = false := hf 3 (by decide)
      rw [show bodS.k = 4 from rfl] at v0 v1 v2 v3
      have HS6 := Lib.hid (hO.set hi ⟨qc, qd, qs, qf⟩)
      have HP6 := Lib.hid (StK.puts_below hbg (bodS.f ⟨qc, qd, qs, qf⟩) w4 (i * bodS.k) HB4.out)
      generalize l[i] = li at *
      obtain ⟨ic, id, is, iff⟩ := li
      dsimp only at v0 v1 v2 v3
      clear ha hf hO hO4 hb4 HX2 HB2 HH
      go_wp2
      go_ret2
      exact ⟨_, rfl, HS6.out, HP6.out⟩
  · have hE : chE l r ok = 19 := if_neg hr
    have hL : chL l r q ok = [] := if_neg hr
    rw [hE, hL]
    clear hE hL hF hh
    by_cases h0 : r < 0
    · go_enter Try.func35, Try.ntmps35
      go_wp2
      go_ret2
      exact ⟨_, rfl, StK.Own.nil _ _ _, HB0.out⟩
    · have h1 : (l.length : Int) ≤ r := by omega
      go_enter Try.func35, Try.ntmps35
      go_wp2
      go_ret2
      exact ⟨_, rfl, StK.Own.nil _ _ _, HB0.out⟩
end Go.Proofs.Ytjbhmeeebacnpaa
namespace Go.Proofs.Ytjbhmeeebacnpaa
open Go Go.RowKit Fl

/-- Two new blocks that hold bodies. -/
theorem two_bd (w : World) (q r : BodD) : BodAt ((w.alloc (.cells (BC q) 40)).alloc (.cells (BC r) 40)) (w.heap.size + 1) r ∧ BodAt ((w.alloc (.cells (BC q) 40)).alloc (.cells (BC r) 40)) w.heap.size q ∧ Below w.heap.size w ((w.alloc (.cells (BC q) 40)).alloc (.cells (BC r) 40)) := by
  have h1 := BodAt.new (w.alloc (.cells (BC q) 40)) r
  have h2 := BodAt.new w q
  rw [show (w.alloc (.cells (BC q) 40)).heap.size = w.heap.size + 1 by simp] at h1
  exact ⟨h1, h2.keep (below_newB _ _), (below_newB w _).alloc (by simp) _⟩
theorem BodAt.put3 {w : World} {b : Nat} {c d : Int} {s f : Bool} (h : BodAt w b ⟨c, d, s, f⟩) (z : Bool) : BodAt (w.setCell ⟨b, 3, none⟩ (.bool z)) b ⟨c, d, s, z⟩ := by
  unfold BodAt at h ⊢
  simp [World.setCell, Array.getElem?_modify, h]
set_option maxRecDepth 100000 in
set_option maxHeartbeats 2000000 in
theorem end1_c (b : BodD) (w : World) : Calls Try.prog 46 #[BV b] w fun e w' => e = .returned (.tuple #[BV ⟨b.dst, -1, b.srv, b.flt⟩, .bool (floorB b && b.dst != -1 && !b.flt)]) ∧ Below w.heap.size w w' := by
  have HT := Lib.hid (fun W => transit_c b W)
  generalize (floorB b && b.dst != -1) = u at *
  have HZ := Lib.hid (two_bd w b zeroB)
  obtain ⟨cel, dst, srv, flt⟩ := b
  obtain ⟨g1, g2, g3⟩ := HZ.out
  have HG : Hid (BodAt ((w.alloc (.cells #[.int .i64 cel, .int .i64 dst, .bool srv, .bool flt] 40)).alloc (.cells #[.int .i64 0, .int .i64 0, .bool false, .bool false] 40)) (w.heap.size + 1) zeroB) := Lib.hid g1
  have HQ : Hid (BodAt ((w.alloc (.cells #[.int .i64 cel, .int .i64 dst, .bool srv, .bool flt] 40)).alloc (.cells #[.int .i64 0, .int .i64 0, .bool false, .bool false] 40)) w.heap.size ⟨cel, dst, srv, flt⟩) := Lib.hid g2
  have HB : Hid (Below w.heap.size w ((w.alloc (.cells #[.int .i64 cel, .int .i64 dst, .bool srv, .bool flt] 40)).alloc (.cells #[.int .i64 0, .int .i64 0, .bool false, .bool false] 40))) := Lib.hid g3
  have HB8 : Hid (∀ W, Below w.heap.size w W → ∀ p q r s : Value, Below w.heap.size w ((((W.setCell ⟨w.heap.size + 1, 0, none⟩ p).setCell ⟨w.heap.size + 1, 1, none⟩ q).setCell ⟨w.heap.size + 1, 2, none⟩ r).setCell ⟨w.heap.size + 1, 3, none⟩ s)) := Lib.hid (fun W h p q r s => below_put (below_put (below_put (below_put h (by omega)) (by omega)) (by omega)) (by omega))
  clear g1 g2 g3 HZ
  rcases u with _ | _
  · go_enter Try.func46, Try.ntmps46
    go_wp2_with fail
    generalize ((w.alloc (.cells #[.int .i64 cel, .int .i64 dst, .bool srv, .bool flt] 40)).alloc (.cells #[.int .i64 0, .int .i64 0, .bool false, .bool false] 40)) = w3 at *
    obtain ⟨y0, y1, y2, y3⟩ := HQ.out.cell
    obtain ⟨z0, z1, z2, z3⟩ := HG.out.cell
    have fq := HQ.out.frozen
    have fg := HG.out.frozen
    refine (HT.out _).mono ?_
    rintro e w4 ⟨rfl, hb4⟩
    replace HG := Lib.hid (HG.out.keep hb4)
    replace HQ := Lib.hid (HQ.out.keep hb4)
    replace HB := Lib.hid (HB.out.trans (hb4.mono HB.out.size))
    clear y0 y1 y2 y3 z0 z1 z2 z3 fq fg hb4
    obtain ⟨y0, y1, y2, y3⟩ := HQ.out.cell
    obtain ⟨z0, z1, z2, z3⟩ := HG.out.cell
    have fq := HQ.out.frozen
    have fg := HG.out.frozen
    go_wp2
    exact bodyPost_ret (results_bd rfl _ _ _ ⟨dst, -1, srv, flt⟩ _ rfl (((HG.out.far (X := w.heap.size) (by omega)).far (X := w.heap.size) (by omega)).put4 ⟨dst, -1, srv, flt⟩) rfl) rfl ⟨rfl, HB8.out _ (by repeat (first | exact HB.out | refine below_put ?_ (Nat.le_refl _))) _ _ _ _⟩
  · go_enter Try.func46, Try.ntmps46
    go_wp2_with fail
    generalize ((w.alloc (.cells #[.int .i64 cel, .int .i64 dst, .bool srv, .bool flt] 40)).alloc (.cells #[.int .i64 0, .int .i64 0, .bool false, .bool false] 40)) = w3 at *
    obtain ⟨y0, y1, y2, y3⟩ := HQ.out.cell
    obtain ⟨z0, z1, z2, z3⟩ := HG.out.cell
    have fq := HQ.out.frozen
    have fg := HG.out.frozen
    refine (HT.out _).mono ?_
    rintro e w4 ⟨rfl, hb4⟩
    replace HG := Lib.hid (HG.out.keep hb4)
    replace HQ := Lib.hid (HQ.out.keep hb4)
    replace HB := Lib.hid (HB.out.trans (hb4.mono HB.out.size))
    clear y0 y1 y2 y3 z0 z1 z2 z3 fq fg hb4
    obtain ⟨y0, y1, y2, y3⟩ := HQ.out.cell
    obtain ⟨z0, z1, z2, z3⟩ := HG.out.cell
    have fq := HQ.out.frozen
    have fg := HG.out.frozen
    go_wp2
    exact bodyPost_ret (results_bd rfl _ _ _ ⟨dst, -1, srv, flt⟩ _ rfl (((HG.out.far (X := w.heap.size) (by omega)).far (X := w.heap.size) (by omega)).put4 ⟨dst, -1, srv, flt⟩) rfl) rfl ⟨rfl, HB8.out _ (by repeat (first | exact HB.out | refine below_put ?_ (Nat.le_refl _))) _ _ _ _⟩
set_option maxRecDepth 100000 in
set_option maxHeartbeats 2000000 in
theorem finish1_c (b : BodD) (w : World) : Calls Try.prog 51 #[BV b] w fun e w' => e = .returned (.tuple #[BV ⟨b.cel, b.dst, false, b.flt⟩, .bool (floorB b && b.srv && !b.flt)]) ∧ Below w.heap.size w w' := by
  have HT := Lib.hid (fun W => floor_c b W)
  generalize floorB b = u at *
  have HZ := Lib.hid (two_bd w b zeroB)
  obtain ⟨cel, dst, srv, flt⟩ := b
  obtain ⟨g1, g2, g3⟩ := HZ.out
  have HG : Hid (BodAt ((w.alloc (.cells #[.int .i64 cel, .int .i64 dst, .bool srv, .bool flt] 40)).alloc (.cells #[.int .i64 0, .int .i64 0, .bool false, .bool false] 40)) (w.heap.size + 1) zeroB) := Lib.hid g1
  have HQ : Hid (BodAt ((w.alloc (.cells #[.int .i64 cel, .int .i64 dst, .bool srv, .bool flt] 40)).alloc (.cells #[.int .i64 0, .int .i64 0, .bool false, .bool false] 40)) w.heap.size ⟨cel, dst, srv, flt⟩) := Lib.hid g2
  have HB : Hid (Below w.heap.size w ((w.alloc (.cells #[.int .i64 cel, .int .i64 dst, .bool srv, .bool flt] 40)).alloc (.cells #[.int .i64 0, .int .i64 0, .bool false, .bool false] 40))) := Lib.hid g3
  have HB8 : Hid (∀ W, Below w.heap.size w W → ∀ p q r s : Value, Below w.heap.size w ((((W.setCell ⟨w.heap.size + 1, 0, none⟩ p).setCell ⟨w.heap.size + 1, 1, none⟩ q).setCell ⟨w.heap.size + 1, 2, none⟩ r).setCell ⟨w.heap.size + 1, 3, none⟩ s)) := Lib.hid (fun W h p q r s => below_put (below_put (below_put (below_put h (by omega)) (by omega)) (by omega)) (by omega))
  clear g1 g2 g3 HZ
  rcases u with _ | _
  · go_enter Try.func51, Try.ntmps51
    go_wp2_with fail
    generalize ((w.alloc (.cells #[.int .i64 cel, .int .i64 dst, .bool srv, .bool flt] 40)).alloc (.cells #[.int .i64 0, .int .i64 0, .bool false, .bool false] 40)) = w3 at *
    obtain ⟨y0, y1, y2, y3⟩ := HQ.out.cell
    obtain ⟨z0, z1, z2, z3⟩ := HG.out.cell
    have fq := HQ.out.frozen
    have fg := HG.out.frozen
    refine (HT.out _).mono ?_
    rintro e w4 ⟨rfl, hb4⟩
    replace HG := Lib.hid (HG.out.keep hb4)
    replace HQ := Lib.hid (HQ.out.keep hb4)
    replace HB := Lib.hid (HB.out.trans (hb4.mono HB.out.size))
    clear y0 y1 y2 y3 z0 z1 z2 z3 fq fg hb4
    obtain ⟨y0, y1, y2, y3⟩ := HQ.out.cell
    obtain ⟨z0, z1, z2, z3⟩ := HG.out.cell
    have fq := HQ.out.frozen
    have fg := HG.out.frozen
    go_wp2
    exact bodyPost_ret (results_bd rfl _ _ _ ⟨cel, dst, false, flt⟩ _ rfl ((HG.out.far (X := w.heap.size) (by omega)).put4 ⟨cel, dst, false, flt⟩) rfl) rfl ⟨rfl, HB8.out _ (by repeat (first | exact HB.out | refine below_put ?_ (Nat.le_refl _))) _ _ _ _⟩
  · rcases srv with _ | _
    · go_enter Try.func51, Try.ntmps51
      go_wp2_with fail
      generalize ((w.alloc (.cells #[.int .i64 cel, .int .i64 dst, .bool false, .bool flt] 40)).alloc (.cells #[.int .i64 0, .int .i64 0, .bool false, .bool false] 40)) = w3 at *
      obtain ⟨y0, y1, y2, y3⟩ := HQ.out.cell
      obtain ⟨z0, z1, z2, z3⟩ := HG.out.cell
      have fq := HQ.out.frozen
      have fg := HG.out.frozen
      refine (HT.out _).mono ?_
      rintro e w4 ⟨rfl, hb4⟩
      replace HG := Lib.hid (HG.out.keep hb4)
      replace HQ := Lib.hid (HQ.out.keep hb4)
      replace HB := Lib.hid (HB.out.trans (hb4.mono HB.out.size))
      clear y0 y1 y2 y3 z0 z1 z2 z3 fq fg hb4
      obtain ⟨y0, y1, y2, y3⟩ := HQ.out.cell
      obtain ⟨z0, z1, z2, z3⟩ := HG.out.cell
      have fq := HQ.out.frozen
      have fg := HG.out.frozen
      go_wp2
      exact bodyPost_ret (results_bd rfl _ _ _ ⟨cel, dst, false, flt⟩ _ rfl ((HG.out.far (X := w.heap.size) (by omega)).put4 ⟨cel, dst, false, flt⟩) rfl) rfl ⟨rfl, HB8.out _ (by repeat (first | exact HB.out | refine below_put ?_ (Nat.le_refl _))) _ _ _ _⟩
    · go_enter Try.func51, Try.ntmps51
      go_wp2_with fail
      generalize ((w.alloc (.cells #[.int .i64 cel, .int .i64 dst, .bool true, .bool flt] 40)).alloc (.cells #[.int .i64 0, .int .i64 0, .bool false, .bool false] 40)) = w3 at *
      obtain ⟨y0, y1, y2, y3⟩ := HQ.out.cell
      obtain ⟨z0, z1, z2, z3⟩ := HG.out.cell
      have fq := HQ.out.frozen
      have fg := HG.out.frozen
      refine (HT.out _).mono ?_
      rintro e w4 ⟨rfl, hb4⟩
      replace HG := Lib.hid (HG.out.keep hb4)
      replace HQ := Lib.hid (HQ.out.keep hb4)
      replace HB := Lib.hid (HB.out.trans (hb4.mono HB.out.size))
      clear y0 y1 y2 y3 z0 z1 z2 z3 fq fg hb4
      obtain ⟨y0, y1, y2, y3⟩ := HQ.out.cell
      obtain ⟨z0, z1, z2, z3⟩ := HG.out.cell
      have fq := HQ.out.frozen
      have fg := HG.out.frozen
      go_wp2
      exact bodyPost_ret (results_bd rfl _ _ _ ⟨cel, dst, false, flt⟩ _ rfl ((HG.out.far (X := w.heap.size) (by omega)).put4 ⟨cel, dst, false, flt⟩) rfl) rfl ⟨rfl, HB8.out _ (by repeat (first | exact HB.out | refine below_put ?_ (Nat.le_refl _))) _ _ _ _⟩
set_option maxRecDepth 100000 in
set_option maxHeartbeats 2000000 in
theorem work1_c (b : BodD) (w : World) : Calls Try.prog 50 #[BV b] w fun e w' => e = .returned (.tuple #[BV ⟨b.cel, b.dst, true, b.flt⟩, .bool (restB b)]) ∧ Below w.heap.size w w' := by
  have HT := Lib.hid (fun W => atRest_c b W)
  generalize restB b = u at *
  have HZ := Lib.hid (two_bd w b zeroB)
  obtain ⟨cel, dst, srv, flt⟩ := b
  obtain ⟨g1, g2, g3⟩ := HZ.out
  have HG : Hid (BodAt ((w.alloc (.cells #[.int .i64 cel, .int .i64 dst, .bool srv, .bool flt] 40)).alloc (.cells #[.int .i64 0, .int .i64 0, .bool false, .bool false] 40)) (w.heap.size + 1) zeroB) := Lib.hid g1
  have HQ : Hid (BodAt ((w.alloc (.cells #[.int .i64 cel, .int .i64 dst, .bool srv, .bool flt] 40)).alloc (.cells #[.int .i64 0, .int .i64 0, .bool false, .bool false] 40)) w.heap.size ⟨cel, dst, srv, flt⟩) := Lib.hid g2
  have HB : Hid (Below w.heap.size w ((w.alloc (.cells #[.int .i64 cel, .int .i64 dst, .bool srv, .bool flt] 40)).alloc (.cells #[.int .i64 0, .int .i64 0, .bool false, .bool false] 40))) := Lib.hid g3
  have HB8 : Hid (∀ W, Below w.heap.size w W → ∀ p q r s : Value, Below w.heap.size w ((((W.setCell ⟨w.heap.size + 1, 0, none⟩ p).setCell ⟨w.heap.size + 1, 1, none⟩ q).setCell ⟨w.heap.size + 1, 2, none⟩ r).setCell ⟨w.heap.size + 1, 3, none⟩ s)) := Lib.hid (fun W h p q r s => below_put (below_put (below_put (below_put h (by omega)) (by omega)) (by omega)) (by omega))
  clear g1 g2 g3 HZ
  rcases u with _ | _
  · go_enter Try.func50, Try.ntmps50
    go_wp2_with fail
    generalize ((w.alloc (.cells #[.int .i64 cel, .int .i64 dst, .bool srv, .bool flt] 40)).alloc (.cells #[.int .i64 0, .int .i64 0, .bool false, .bool false] 40)) = w3 at *
    obtain ⟨y0, y1, y2, y3⟩ := HQ.out.cell
    obtain ⟨z0, z1, z2, z3⟩ := HG.out.cell
    have fq := HQ.out.frozen
    have fg := HG.out.frozen
    refine (HT.out _).mono ?_
    rintro e w4 ⟨rfl, hb4⟩
    replace HG := Lib.hid (HG.out.keep hb4)
    replace HQ := Lib.hid (HQ.out.keep hb4)
    replace HB := Lib.hid (HB.out.trans (hb4.mono HB.out.size))
    clear y0 y1 y2 y3 z0 z1 z2 z3 fq fg hb4
    obtain ⟨y0, y1, y2, y3⟩ := HQ.out.cell
    obtain ⟨z0, z1, z2, z3⟩ := HG.out.cell
    have fq := HQ.out.frozen
    have fg := HG.out.frozen
    go_wp2
    exact bodyPost_ret (results_bd rfl _ _ _ ⟨cel, dst, true, flt⟩ _ rfl ((HG.out.far (X := w.heap.size) (by omega)).put4 ⟨cel, dst, true, flt⟩) rfl) rfl ⟨rfl, HB8.out _ (by repeat (first | exact HB.out | refine below_put ?_ (Nat.le_refl _))) _ _ _ _⟩
  · go_enter Try.func50, Try.ntmps50
    go_wp2_with fail
    generalize ((w.alloc (.cells #[.int .i64 cel, .int .i64 dst, .bool srv, .bool flt] 40)).alloc (.cells #[.int .i64 0, .int .i64 0, .bool false, .bool false] 40)) = w3 at *
    obtain ⟨y0, y1, y2, y3⟩ := HQ.out.cell
    obtain ⟨z0, z1, z2, z3⟩ := HG.out.cell
    have fq := HQ.out.frozen
    have fg := HG.out.frozen
    refine (HT.out _).mono ?_
    rintro e w4 ⟨rfl, hb4⟩
    replace HG := Lib.hid (HG.out.keep hb4)
    replace HQ := Lib.hid (HQ.out.keep hb4)
    replace HB := Lib.hid (HB.out.trans (hb4.mono HB.out.size))
    clear y0 y1 y2 y3 z0 z1 z2 z3 fq fg hb4
    obtain ⟨y0, y1, y2, y3⟩ := HQ.out.cell
    obtain ⟨z0, z1, z2, z3⟩ := HG.out.cell
    have fq := HQ.out.frozen
    have fg := HG.out.frozen
    go_wp2
    exact bodyPost_ret (results_bd rfl _ _ _ ⟨cel, dst, true, flt⟩ _ rfl ((HG.out.far (X := w.heap.size) (by omega)).put4 ⟨cel, dst, true, flt⟩) rfl) rfl ⟨rfl, HB8.out _ (by repeat (first | exact HB.out | refine below_put ?_ (Nat.le_refl _))) _ _ _ _⟩
set_option maxRecDepth 100000 in
set_option maxHeartbeats 2000000 in
theorem put1_c (b : BodD) (c : Int) (P : Nat) (w : World) (hP : w.heap[P]? = some (.cells #[.int .i64 c] 3 (0, 0))) : Calls Try.prog 41 #[BV b, .pointer (some ⟨P, 0, none⟩)] w fun e w' => e = .returned (.tuple #[BV ⟨c, -1, false, false⟩, .bool (!floorB b)]) ∧ Below w.heap.size w w' := by
  have HF := Lib.hid (fun W => floor_c b W)
  have HR := Lib.hid (fun W => resting_c c W)
  have HP : Hid (∀ W, Below w.heap.size w W → W.cell? ⟨P, 0, none⟩ = some (.int .i64 c)) := Lib.hid (fun W hW => cell_of_one ((hW.block P (block_lt hP)).trans hP))
  clear hP
  generalize floorB b = u at *
  have HZ := Lib.hid (two_bd w b zeroB)
  obtain ⟨cel, dst, srv, flt⟩ := b
  obtain ⟨g1, g2, g3⟩ := HZ.out
  have HG : Hid (BodAt ((w.alloc (.cells #[.int .i64 cel, .int .i64 dst, .bool srv, .bool flt] 40)).alloc (.cells #[.int .i64 0, .int .i64 0, .bool false, .bool false] 40)) (w.heap.size + 1) zeroB) := Lib.hid g1
  have HQ : Hid (BodAt ((w.alloc (.cells #[.int .i64 cel, .int .i64 dst, .bool srv, .bool flt] 40)).alloc (.cells #[.int .i64 0, .int .i64 0, .bool false, .bool false] 40)) w.heap.size ⟨cel, dst, srv, flt⟩) := Lib.hid g2
  have HB : Hid (Below w.heap.size w ((w.alloc (.cells #[.int .i64 cel, .int .i64 dst, .bool srv, .bool flt] 40)).alloc (.cells #[.int .i64 0, .int .i64 0, .bool false, .bool false] 40))) := Lib.hid g3
  have HB8 : Hid (∀ W, Below w.heap.size w W → ∀ p q r s : Value, Below w.heap.size w ((((W.setCell ⟨w.heap.size + 1, 0, none⟩ p).setCell ⟨w.heap.size + 1, 1, none⟩ q).setCell ⟨w.heap.size + 1, 2, none⟩ r).setCell ⟨w.heap.size + 1, 3, none⟩ s)) := Lib.hid (fun W h p q r s => below_put (below_put (below_put (below_put h (by omega)) (by omega)) (by omega)) (by omega))
  clear g1 g2 g3 HZ
  have pp0 := HP.out _ HB.out
  go_enter Try.func41, Try.ntmps41
  go_wp2_with fail
  generalize ((w.alloc (.cells #[.int .i64 cel, .int .i64 dst, .bool srv, .bool flt] 40)).alloc (.cells #[.int .i64 0, .int .i64 0, .bool false, .bool false] 40)) = w3 at *
  rename_i Q1 K1 hK1
  replace HG : Hid (BodAt w3.drew (w.heap.size + 1) zeroB) := Lib.hid HG.out
  replace HQ : Hid (BodAt w3.drew w.heap.size ⟨cel, dst, srv, flt⟩) := Lib.hid HQ.out
  replace HB : Hid (Below w.heap.size w w3.drew) := Lib.hid HB.out.drew
  obtain ⟨y0, y1, y2, y3⟩ := HQ.out.cell
  obtain ⟨z0, z1, z2, z3⟩ := HG.out.cell
  have fq := HQ.out.frozen
  have fg := HG.out.frozen
  have p0 := HP.out _ HB.out
  refine wp_region_noPanic ?_
  refine wp_region_held_drew (S := fun W => W.cell? ⟨w.heap.size, 0, none⟩ = some (.int .i64 cel) ∧ W.cell? ⟨w.heap.size, 1, none⟩ = some (.int .i64 dst) ∧ W.cell? ⟨w.heap.size, 2, none⟩ = some (.bool srv) ∧ W.cell? ⟨w.heap.size, 3, none⟩ = some (.bool flt) ∧ W.cell? ⟨P, 0, none⟩ = some (.int .i64 c)) (by kernel_rfl) ⟨y0, y1, y2, y3, p0⟩ (fun hHeld => ?_)
  refine wpAnyH_take (i := 0) (oi := { dst := some 5, op := Op.load 3 (Operand.tmp 1), type := 3, pos := "plant.go:55", after := #[], guard := none }) (v := ?v0) rfl (by kernel_rfl) (by kernel_rfl) (by kernel_rfl) (fun _ _ _ h => h) (Or.inl ⟨by rfl, ?hy0⟩) (by assumption) ?rest0
  case hy0 => ((intro w hSw; (try dsimp only at hSw); go_simp) <;> (with_reducible rfl))
  try simp only [Act.put, List.setIfInBounds_toArray, List.set_cons_zero, List.set_cons_succ]
  refine wpAnyH_take (i := 2) (oi := { dst := some 7, op := Op.load 40 (Operand.tmp 2), type := 40, pos := "plant.go:55", after := #[], guard := none }) (v := ?v1) rfl (by kernel_rfl) (by kernel_rfl) (by kernel_rfl) (fun _ _ _ h => h) (Or.inl ⟨by rfl, ?hy1⟩) (by assumption) ?rest1
  case hy1 => ((intro w hSw; (try dsimp only at hSw); go_simp) <;> (with_reducible rfl))
  try simp only [Act.put, List.setIfInBounds_toArray, List.set_cons_zero, List.set_cons_succ]
  refine wpAnyH_ready (rs := [1]) (by kernel_rfl) (by simp) ?_
  refine (AllReadyH.cons (o := { dst := some 6, op := Op.call { callee := Callee.value (Operand.func 38), args := #[Operand.tmp 5], argTypes := #[3] }, type := 40, pos := "plant.go:55", after := #[{ on := 0, ground := Ground.data }], guard := none }) rfl (fun K hK => ?_) AllReadyH.nil)
  go_simp
  (first | (go_at_call 38; refine (HR.out _).mono ?_; rintro e w4 ⟨rfl, hb4⟩; replace HG := Lib.hid (HG.out.keep hb4); replace HQ := Lib.hid (HQ.out.keep hb4); replace HB := Lib.hid (HB.out.trans (hb4.mono HB.out.size)); clear y0 y1 y2 y3 z0 z1 z2 z3 fq fg hb4; obtain ⟨y0, y1, y2, y3⟩ := HQ.out.cell; obtain ⟨z0, z1, z2, z3⟩ := HG.out.cell; have fq := HQ.out.frozen; have fg := HG.out.frozen; have p0 := HP.out _ HB.out) | (go_at_call 33; refine (HF.out _).mono ?_; rintro e w4 ⟨rfl, hb4⟩; replace HG := Lib.hid (HG.out.keep hb4); replace HQ := Lib.hid (HQ.out.keep hb4); replace HB := Lib.hid (HB.out.trans (hb4.mono HB.out.size)); clear y0 y1 y2 y3 z0 z1 z2 z3 fq fg hb4; obtain ⟨y0, y1, y2, y3⟩ := HQ.out.cell; obtain ⟨z0, z1, z2, z3⟩ := HG.out.cell; have fq := HQ.out.frozen; have fg := HG.out.frozen; have p0 := HP.out _ HB.out))
  go_wp2_with fail
  refine hK.out _ _ ?_ (fun hHeld => ?_)
  · (try dsimp only)
    first | with_reducible exact ⟨y0, y1, y2, y3, p0⟩ | (obtain ⟨k0, k1, k2, k3⟩ := (HQ.out.far4 (X := w.heap.size + 1) (by omega)).cell; exact ⟨k0, k1, k2, k3, HP.out _ (HB8.out _ HB.out _ _ _ _)⟩)
  clear hK K
  try simp only [Act.put, List.setIfInBounds_toArray, List.set_cons_zero, List.set_cons_succ]
  refine wpAnyH_ready (rs := [3]) (by kernel_rfl) (by simp) ?_
  refine (AllReadyH.cons (o := { dst := some 8, op := Op.call { callee := Callee.value (Operand.func 33), args := #[Operand.tmp 7], argTypes := #[40] }, type := 4, pos := "plant.go:55", after := #[{ on := 2, ground := Ground.data }, { on := 1, ground := Ground.chain }], guard := none }) rfl (fun K hK => ?_) AllReadyH.nil)
  go_simp
  (first | (go_at_call 38; refine (HR.out _).mono ?_; rintro e w4 ⟨rfl, hb4⟩; replace HG := Lib.hid (HG.out.keep hb4); replace HQ := Lib.hid (HQ.out.keep hb4); replace HB := Lib.hid (HB.out.trans (hb4.mono HB.out.size)); clear y0 y1 y2 y3 z0 z1 z2 z3 fq fg hb4; obtain ⟨y0, y1, y2, y3⟩ := HQ.out.cell; obtain ⟨z0, z1, z2, z3⟩ := HG.out.cell; have fq := HQ.out.frozen; have fg := HG.out.frozen; have p0 := HP.out _ HB.out) | (go_at_call 33; refine (HF.out _).mono ?_; rintro e w4 ⟨rfl, hb4⟩; replace HG := Lib.hid (HG.out.keep hb4); replace HQ := Lib.hid (HQ.out.keep hb4); replace HB := Lib.hid (HB.out.trans (hb4.mono HB.out.size)); clear y0 y1 y2 y3 z0 z1 z2 z3 fq fg hb4; obtain ⟨y0, y1, y2, y3⟩ := HQ.out.cell; obtain ⟨z0, z1, z2, z3⟩ := HG.out.cell; have fq := HQ.out.frozen; have fg := HG.out.frozen; have p0 := HP.out _ HB.out))
  go_wp2_with fail
  refine hK.out _ _ ?_ (fun hHeld => ?_)
  · (try dsimp only)
    first | with_reducible exact ⟨y0, y1, y2, y3, p0⟩ | (obtain ⟨k0, k1, k2, k3⟩ := (HQ.out.far4 (X := w.heap.size + 1) (by omega)).cell; exact ⟨k0, k1, k2, k3, HP.out _ (HB8.out _ HB.out _ _ _ _)⟩)
  clear hK K
  try simp only [Act.put, List.setIfInBounds_toArray, List.set_cons_zero, List.set_cons_succ]
  refine wpAnyH_take (i := 4) (oi := { dst := some 9, op := Op.unOp UnOp.not 4 (Operand.tmp 8), type := 4, pos := "plant.go:55", after := #[{ on := 3, ground := Ground.data }, { on := 5, ground := Ground.gcOnly Departure.lateStores }], guard := none }) (v := ?v2) rfl (by kernel_rfl) (by kernel_rfl) (by kernel_rfl) (fun _ _ _ h => h) (Or.inl ⟨by rfl, ?hy2⟩) (by assumption) ?rest2
  case hy2 => ((intro w hSw; (try dsimp only at hSw); go_simp) <;> (with_reducible rfl))
  try simp only [Act.put, List.setIfInBounds_toArray, List.set_cons_zero, List.set_cons_succ]
  refine wpAnyH_ready (rs := [5]) (by kernel_rfl) (by simp) ?_
  refine (AllReadyH.cons (o := { dst := none, op := Op.store 40 (Operand.tmp 3) (Operand.tmp 6), type := 0, pos := "plant.go:55", after := #[{ on := 1, ground := Ground.data }, { on := 3, ground := Ground.chain }, { on := 0, ground := Ground.phase }, { on := 1, ground := Ground.phase }, { on := 2, ground := Ground.textOnly Departure.lateStores }, { on := 3, ground := Ground.textOnly Departure.lateStoresUnsure }, { on := 4, ground := Ground.textOnly Departure.lateStores }], guard := none }) rfl (fun K hK => ?_) AllReadyH.nil)
  go_simp
  refine hK.out _ _ ?_ (fun hHeld => ?_)
  · (try dsimp only)
    first | with_reducible exact ⟨y0, y1, y2, y3, p0⟩ | (obtain ⟨k0, k1, k2, k3⟩ := (HQ.out.far4 (X := w.heap.size + 1) (by omega)).cell; exact ⟨k0, k1, k2, k3, HP.out _ (HB8.out _ HB.out _ _ _ _)⟩)
  clear hK K
  try simp only [Act.put, List.setIfInBounds_toArray, List.set_cons_zero, List.set_cons_succ]
  refine wpAnyH_take (i := 6) (oi := { dst := some 4, op := Op.assign (Operand.tmp 9), type := 4, pos := "plant.go:55", after := #[{ on := 4, ground := Ground.data }, { on := 5, ground := Ground.chain }, { on := 0, ground := Ground.phase }, { on := 1, ground := Ground.phase }, { on := 2, ground := Ground.phase }, { on := 3, ground := Ground.phase }, { on := 4, ground := Ground.phase }, { on := 5, ground := Ground.phase }], guard := none }) (v := ?v3) rfl (by kernel_rfl) (by kernel_rfl) (by kernel_rfl) (fun _ _ _ h => h) (Or.inl ⟨by rfl, ?hy3⟩) (by assumption) ?rest3
  case hy3 => ((intro w hSw; (try dsimp only at hSw); go_simp) <;> (with_reducible rfl))
  try simp only [Act.put, List.setIfInBounds_toArray, List.set_cons_zero, List.set_cons_succ]
  refine wpAnyH_done (by kernel_rfl) ?_ _
  refine NoPanic.normal ?_
  show K1 _ _
  refine hK1 _ _ ?_
  go_wp2
  exact bodyPost_ret (results_bd rfl _ _ _ ⟨c, -1, false, false⟩ _ rfl (HG.out.put4 ⟨c, -1, false, false⟩) rfl) rfl ⟨rfl, HB8.out _ HB.out _ _ _ _⟩
set_option maxRecDepth 100000 in
set_option maxHeartbeats 2000000 in
theorem fault1_c (b : BodD) (w : World) : Calls Try.prog 36 #[BV b] w fun e w' => e = .returned (.tuple #[BV ⟨b.cel, b.dst, b.srv, true⟩, .bool (floorB b)]) ∧ Below w.heap.size w w' := by
  have HF : Hid (∀ W, Calls Try.prog 33 #[BV ⟨b.cel, b.dst, b.srv, true⟩] W fun e w' => e = .returned (.bool (floorB b)) ∧ Below W.heap.size W w') := Lib.hid (fun W => floor_c ⟨b.cel, b.dst, b.srv, true⟩ W)
  generalize floorB b = u at *
  have HZ := Lib.hid (two_bd w ⟨b.cel, b.dst, b.srv, true⟩ zeroB)
  obtain ⟨cel, dst, srv, flt⟩ := b
  obtain ⟨g1, g2, g3⟩ := HZ.out
  have HG : Hid (BodAt ((w.alloc (.cells #[.int .i64 cel, .int .i64 dst, .bool srv, .bool true] 40)).alloc (.cells #[.int .i64 0, .int .i64 0, .bool false, .bool false] 40)) (w.heap.size + 1) zeroB) := Lib.hid g1
  have HQ : Hid (BodAt ((w.alloc (.cells #[.int .i64 cel, .int .i64 dst, .bool srv, .bool true] 40)).alloc (.cells #[.int .i64 0, .int .i64 0, .bool false, .bool false] 40)) w.heap.size ⟨cel, dst, srv, true⟩) := Lib.hid g2
  have HB : Hid (Below w.heap.size w ((w.alloc (.cells #[.int .i64 cel, .int .i64 dst, .bool srv, .bool true] 40)).alloc (.cells #[.int .i64 0, .int .i64 0, .bool false, .bool false] 40))) := Lib.hid g3
  have HB8 : Hid (∀ W, Below w.heap.size w W → ∀ p q r s : Value, Below w.heap.size w ((((W.setCell ⟨w.heap.size + 1, 0, none⟩ p).setCell ⟨w.heap.size + 1, 1, none⟩ q).setCell ⟨w.heap.size + 1, 2, none⟩ r).setCell ⟨w.heap.size + 1, 3, none⟩ s)) := Lib.hid (fun W h p q r s => below_put (below_put (below_put (below_put h (by omega)) (by omega)) (by omega)) (by omega))
  clear g1 g2 g3 HZ
  go_enter Try.func36, Try.ntmps36
  go_wp2_with fail
  generalize ((w.alloc (.cells #[.int .i64 cel, .int .i64 dst, .bool srv, .bool true] 40)).alloc (.cells #[.int .i64 0, .int .i64 0, .bool false, .bool false] 40)) = w3 at *
  rename_i Q1 K1 hK1
  replace HG : Hid (BodAt w3.drew (w.heap.size + 1) zeroB) := Lib.hid HG.out
  replace HQ : Hid (BodAt w3.drew w.heap.size ⟨cel, dst, srv, true⟩) := Lib.hid HQ.out
  replace HB : Hid (Below w.heap.size w w3.drew) := Lib.hid HB.out.drew
  obtain ⟨y0, y1, y2, y3⟩ := HQ.out.cell
  obtain ⟨z0, z1, z2, z3⟩ := HG.out.cell
  have fq := HQ.out.frozen
  have fg := HG.out.frozen
  refine wp_region_noPanic ?_
  refine wp_region_held_drew (S := fun W => W.cell? ⟨w.heap.size, 0, none⟩ = some (.int .i64 cel) ∧ W.cell? ⟨w.heap.size, 1, none⟩ = some (.int .i64 dst) ∧ W.cell? ⟨w.heap.size, 2, none⟩ = some (.bool srv) ∧ W.cell? ⟨w.heap.size, 3, none⟩ = some (.bool true)) (by kernel_rfl) ⟨y0, y1, y2, y3⟩ (fun hHeld => ?_)
  refine wpAnyH_take (i := 0) (oi := { dst := some 5, op := Op.load 40 (Operand.tmp 1), type := 40, pos := "plant.go:102", after := #[], guard := none }) (v := ?v4) rfl (by kernel_rfl) (by kernel_rfl) (by kernel_rfl) (fun _ _ _ h => h) (Or.inl ⟨by rfl, ?hy4⟩) (by assumption) ?rest4
  case hy4 => ((intro w hSw; (try dsimp only at hSw); go_simp) <;> (with_reducible rfl))
  try simp only [Act.put, List.setIfInBounds_toArray, List.set_cons_zero, List.set_cons_succ]
  refine wpAnyH_take (i := 1) (oi := { dst := some 6, op := Op.load 40 (Operand.tmp 1), type := 40, pos := "plant.go:102", after := #[], guard := none }) (v := ?v5) rfl (by kernel_rfl) (by kernel_rfl) (by kernel_rfl) (fun _ _ _ h => h) (Or.inl ⟨by rfl, ?hy5⟩) (by assumption) ?rest5
  case hy5 => ((intro w hSw; (try dsimp only at hSw); go_simp) <;> (with_reducible rfl))
  try simp only [Act.put, List.setIfInBounds_toArray, List.set_cons_zero, List.set_cons_succ]
  refine wpAnyH_ready (rs := [2]) (by kernel_rfl) (by simp) ?_
  refine (AllReadyH.cons (o := { dst := some 7, op := Op.call { callee := Callee.value (Operand.func 33), args := #[Operand.tmp 6], argTypes := #[40] }, type := 4, pos := "plant.go:102", after := #[{ on := 1, ground := Ground.data }], guard := none }) rfl (fun K hK => ?_) AllReadyH.nil)
  go_simp
  (first | (go_at_call 33; refine (HF.out _).mono ?_; rintro e w4 ⟨rfl, hb4⟩; replace HG := Lib.hid (HG.out.keep hb4); replace HQ := Lib.hid (HQ.out.keep hb4); replace HB := Lib.hid (HB.out.trans (hb4.mono HB.out.size)); clear y0 y1 y2 y3 z0 z1 z2 z3 fq fg hb4; obtain ⟨y0, y1, y2, y3⟩ := HQ.out.cell; obtain ⟨z0, z1, z2, z3⟩ := HG.out.cell; have fq := HQ.out.frozen; have fg := HG.out.frozen))
  go_wp2_with fail
  refine hK.out _ _ ?_ (fun hHeld => ?_)
  · (try dsimp only)
    first | with_reducible exact ⟨y0, y1, y2, y3⟩ | exact (HQ.out.far4 (by omega)).cell
  clear hK K
  try simp only [Act.put, List.setIfInBounds_toArray, List.set_cons_zero, List.set_cons_succ]
  refine wpAnyH_ready (rs := [3]) (by kernel_rfl) (by simp) ?_
  refine (AllReadyH.cons (o := { dst := none, op := Op.store 40 (Operand.tmp 2) (Operand.tmp 5), type := 0, pos := "plant.go:102", after := #[{ on := 0, ground := Ground.data }, { on := 2, ground := Ground.chain }, { on := 0, ground := Ground.phase }, { on := 1, ground := Ground.textOnly Departure.lateStores }, { on := 2, ground := Ground.textOnly Departure.lateStoresUnsure }], guard := none }) rfl (fun K hK => ?_) AllReadyH.nil)
  go_simp
  refine hK.out _ _ ?_ (fun hHeld => ?_)
  · (try dsimp only)
    first | with_reducible exact ⟨y0, y1, y2, y3⟩ | exact (HQ.out.far4 (by omega)).cell
  clear hK K
  try simp only [Act.put, List.setIfInBounds_toArray, List.set_cons_zero, List.set_cons_succ]
  refine wpAnyH_take (i := 4) (oi := { dst := some 3, op := Op.assign (Operand.tmp 7), type := 4, pos := "plant.go:102", after := #[{ on := 2, ground := Ground.data }, { on := 3, ground := Ground.chain }, { on := 0, ground := Ground.phase }, { on := 1, ground := Ground.phase }, { on := 2, ground := Ground.phase }, { on := 3, ground := Ground.phase }], guard := none }) (v := ?v6) rfl (by kernel_rfl) (by kernel_rfl) (by kernel_rfl) (fun _ _ _ h => h) (Or.inl ⟨by rfl, ?hy6⟩) (by assumption) ?rest6
  case hy6 => ((intro w hSw; (try dsimp only at hSw); go_simp) <;> (with_reducible rfl))
  try simp only [Act.put, List.setIfInBounds_toArray, List.set_cons_zero, List.set_cons_succ]
  refine wpAnyH_done (by kernel_rfl) ?_ _
  refine NoPanic.normal ?_
  show K1 _ _
  refine hK1 _ _ ?_
  go_wp2
  exact bodyPost_ret (results_bd rfl _ _ _ ⟨cel, dst, srv, true⟩ _ rfl (HG.out.put4 ⟨cel, dst, srv, true⟩) rfl) rfl ⟨rfl, HB8.out _ HB.out _ _ _ _⟩
set_option maxRecDepth 100000 in
set_option maxHeartbeats 2000000 in
theorem lift1_c (b : BodD) (w : World) : Calls Try.prog 37 #[BV b] w fun e w' => e = .returned (.tuple #[BV offB, .bool (floorB b && (restB b || b.flt))]) ∧ Below w.heap.size w w' := by
  have HF := Lib.hid (fun W => floor_c b W)
  have HT := Lib.hid (fun W => atRest_c b W)
  have HR := Lib.hid (fun W => resting_c (-1) W)
  generalize floorB b = u at *
  generalize restB b = z at *
  have HZ := Lib.hid (two_bd w b zeroB)
  obtain ⟨cel, dst, srv, flt⟩ := b
  obtain ⟨g1, g2, g3⟩ := HZ.out
  have HG : Hid (BodAt ((w.alloc (.cells #[.int .i64 cel, .int .i64 dst, .bool srv, .bool flt] 40)).alloc (.cells #[.int .i64 0, .int .i64 0, .bool false, .bool false] 40)) (w.heap.size + 1) zeroB) := Lib.hid g1
  have HQ : Hid (BodAt ((w.alloc (.cells #[.int .i64 cel, .int .i64 dst, .bool srv, .bool flt] 40)).alloc (.cells #[.int .i64 0, .int .i64 0, .bool false, .bool false] 40)) w.heap.size ⟨cel, dst, srv, flt⟩) := Lib.hid g2
  have HB : Hid (Below w.heap.size w ((w.alloc (.cells #[.int .i64 cel, .int .i64 dst, .bool srv, .bool flt] 40)).alloc (.cells #[.int .i64 0, .int .i64 0, .bool false, .bool false] 40))) := Lib.hid g3
  have HB8 : Hid (∀ W, Below w.heap.size w W → ∀ p q r s : Value, Below w.heap.size w ((((W.setCell ⟨w.heap.size + 1, 0, none⟩ p).setCell ⟨w.heap.size + 1, 1, none⟩ q).setCell ⟨w.heap.size + 1, 2, none⟩ r).setCell ⟨w.heap.size + 1, 3, none⟩ s)) := Lib.hid (fun W h p q r s => below_put (below_put (below_put (below_put h (by omega)) (by omega)) (by omega)) (by omega))
  clear g1 g2 g3 HZ
  rcases u with _ | _
  · go_enter Try.func37, Try.ntmps37
    go_wp2_with fail
    generalize ((w.alloc (.cells #[.int .i64 cel, .int .i64 dst, .bool srv, .bool flt] 40)).alloc (.cells #[.int .i64 0, .int .i64 0, .bool false, .bool false] 40)) = w3 at *
    rename_i Q1 K1 hK1
    replace HG : Hid (BodAt w3.drew (w.heap.size + 1) zeroB) := Lib.hid HG.out
    replace HQ : Hid (BodAt w3.drew w.heap.size ⟨cel, dst, srv, flt⟩) := Lib.hid HQ.out
    replace HB : Hid (Below w.heap.size w w3.drew) := Lib.hid HB.out.drew
    obtain ⟨y0, y1, y2, y3⟩ := HQ.out.cell
    obtain ⟨z0, z1, z2, z3⟩ := HG.out.cell
    have fq := HQ.out.frozen
    have fg := HG.out.frozen
    refine wp_region_noPanic ?_
    refine wp_region_held_drew (S := fun W => W.cell? ⟨w.heap.size, 0, none⟩ = some (.int .i64 cel) ∧ W.cell? ⟨w.heap.size, 1, none⟩ = some (.int .i64 dst) ∧ W.cell? ⟨w.heap.size, 2, none⟩ = some (.bool srv) ∧ W.cell? ⟨w.heap.size, 3, none⟩ = some (.bool flt)) (by kernel_rfl) ⟨y0, y1, y2, y3⟩ (fun hHeld => ?_)
    refine wpAnyH_take (i := 1) (oi := { dst := some 5, op := Op.load 40 (Operand.tmp 1), type := 40, pos := "plant.go:109", after := #[], guard := none }) (v := ?v7) rfl (by kernel_rfl) (by kernel_rfl) (by kernel_rfl) (fun _ _ _ h => h) (Or.inl ⟨by rfl, ?hy7⟩) (by assumption) ?rest7
    case hy7 => ((intro w hSw; (try dsimp only at hSw); go_simp) <;> (with_reducible rfl))
    try simp only [Act.put, List.setIfInBounds_toArray, List.set_cons_zero, List.set_cons_succ]
    refine wpAnyH_ready (rs := [0]) (by kernel_rfl) (by simp) ?_
    refine (AllReadyH.cons (o := { dst := some 4, op := Op.call { callee := Callee.value (Operand.func 38), args := #[Operand.const (Value.int IntKind.i64 (-1))], argTypes := #[3] }, type := 40, pos := "plant.go:109", after := #[], guard := none }) rfl (fun K hK => ?_) AllReadyH.nil)
    go_simp
    (first | (go_at_call 38; refine (HR.out _).mono ?_; rintro e w4 ⟨rfl, hb4⟩; replace HG := Lib.hid (HG.out.keep hb4); replace HQ := Lib.hid (HQ.out.keep hb4); replace HB := Lib.hid (HB.out.trans (hb4.mono HB.out.size)); clear y0 y1 y2 y3 z0 z1 z2 z3 fq fg hb4; obtain ⟨y0, y1, y2, y3⟩ := HQ.out.cell; obtain ⟨z0, z1, z2, z3⟩ := HG.out.cell; have fq := HQ.out.frozen; have fg := HG.out.frozen) | (go_at_call 33; refine (HF.out _).mono ?_; rintro e w4 ⟨rfl, hb4⟩; replace HG := Lib.hid (HG.out.keep hb4); replace HQ := Lib.hid (HQ.out.keep hb4); replace HB := Lib.hid (HB.out.trans (hb4.mono HB.out.size)); clear y0 y1 y2 y3 z0 z1 z2 z3 fq fg hb4; obtain ⟨y0, y1, y2, y3⟩ := HQ.out.cell; obtain ⟨z0, z1, z2, z3⟩ := HG.out.cell; have fq := HQ.out.frozen; have fg := HG.out.frozen) | (go_at_call 39; refine (HT.out _).mono ?_; rintro e w4 ⟨rfl, hb4⟩; replace HG := Lib.hid (HG.out.keep hb4); replace HQ := Lib.hid (HQ.out.keep hb4); replace HB := Lib.hid (HB.out.trans (hb4.mono HB.out.size)); clear y0 y1 y2 y3 z0 z1 z2 z3 fq fg hb4; obtain ⟨y0, y1, y2, y3⟩ := HQ.out.cell; obtain ⟨z0, z1, z2, z3⟩ := HG.out.cell; have fq := HQ.out.frozen; have fg := HG.out.frozen))
    go_wp2_with fail
    refine hK.out _ _ ?_ (fun hHeld => ?_)
    · (try dsimp only)
      first | with_reducible exact ⟨y0, y1, y2, y3⟩ | exact (HQ.out.far4 (by omega)).cell
    clear hK K
    try simp only [Act.put, List.setIfInBounds_toArray, List.set_cons_zero, List.set_cons_succ]
    refine wpAnyH_ready (rs := [2]) (by kernel_rfl) (by simp) ?_
    refine (AllReadyH.cons (o := { dst := some 6, op := Op.call { callee := Callee.value (Operand.func 33), args := #[Operand.tmp 5], argTypes := #[40] }, type := 4, pos := "plant.go:109", after := #[{ on := 1, ground := Ground.data }, { on := 0, ground := Ground.chain }], guard := none }) rfl (fun K hK => ?_) AllReadyH.nil)
    go_simp
    (first | (go_at_call 38; refine (HR.out _).mono ?_; rintro e w4 ⟨rfl, hb4⟩; replace HG := Lib.hid (HG.out.keep hb4); replace HQ := Lib.hid (HQ.out.keep hb4); replace HB := Lib.hid (HB.out.trans (hb4.mono HB.out.size)); clear y0 y1 y2 y3 z0 z1 z2 z3 fq fg hb4; obtain ⟨y0, y1, y2, y3⟩ := HQ.out.cell; obtain ⟨z0, z1, z2, z3⟩ := HG.out.cell; have fq := HQ.out.frozen; have fg := HG.out.frozen) | (go_at_call 33; refine (HF.out _).mono ?_; rintro e w4 ⟨rfl, hb4⟩; replace HG := Lib.hid (HG.out.keep hb4); replace HQ := Lib.hid (HQ.out.keep hb4); replace HB := Lib.hid (HB.out.trans (hb4.mono HB.out.size)); clear y0 y1 y2 y3 z0 z1 z2 z3 fq fg hb4; obtain ⟨y0, y1, y2, y3⟩ := HQ.out.cell; obtain ⟨z0, z1, z2, z3⟩ := HG.out.cell; have fq := HQ.out.frozen; have fg := HG.out.frozen) | (go_at_call 39; refine (HT.out _).mono ?_; rintro e w4 ⟨rfl, hb4⟩; replace HG := Lib.hid (HG.out.keep hb4); replace HQ := Lib.hid (HQ.out.keep hb4); replace HB := Lib.hid (HB.out.trans (hb4.mono HB.out.size)); clear y0 y1 y2 y3 z0 z1 z2 z3 fq fg hb4; obtain ⟨y0, y1, y2, y3⟩ := HQ.out.cell; obtain ⟨z0, z1, z2, z3⟩ := HG.out.cell; have fq := HQ.out.frozen; have fg := HG.out.frozen))
    go_wp2_with fail
    refine hK.out _ _ ?_ (fun hHeld => ?_)
    · (try dsimp only)
      first | with_reducible exact ⟨y0, y1, y2, y3⟩ | exact (HQ.out.far4 (by omega)).cell
    clear hK K
    try simp only [Act.put, List.setIfInBounds_toArray, List.set_cons_zero, List.set_cons_succ]
    refine wpAnyH_take (i := 3) (oi := { dst := some 7, op := Op.move (Operand.tmp 6), type := 4, pos := "plant.go:109", after := #[{ on := 2, ground := Ground.data }, { on := 2, ground := Ground.chain }], guard := none }) (v := ?v8) rfl (by kernel_rfl) (by kernel_rfl) (by kernel_rfl) (fun _ _ _ h => h) (Or.inl ⟨by rfl, ?hy8⟩) (by assumption) ?rest8
    case hy8 => ((intro w hSw; (try dsimp only at hSw); go_simp) <;> (with_reducible rfl))
    try simp only [Act.put, List.setIfInBounds_toArray, List.set_cons_zero, List.set_cons_succ]
    refine wpAnyH_take (i := 4) (oi := { dst := some 8, op := Op.load 40 (Operand.tmp 1), type := 40, pos := "plant.go:109", after := #[{ on := 3, ground := Ground.guard }], guard := some (3, true) }) (v := undef) rfl (by kernel_rfl) (by kernel_rfl) (by kernel_rfl) (fun _ _ _ h => h) (Or.inr ⟨by rfl, rfl⟩) (by assumption) ?_
    try simp only [Act.put, List.setIfInBounds_toArray, List.set_cons_zero, List.set_cons_succ]
    refine wpAnyH_take (i := 5) (oi := { dst := some 9, op := Op.call { callee := Callee.value (Operand.func 39), args := #[Operand.tmp 8], argTypes := #[40] }, type := 4, pos := "plant.go:109", after := #[{ on := 4, ground := Ground.data }, { on := 3, ground := Ground.chain }, { on := 3, ground := Ground.guard }], guard := some (3, true) }) (v := undef) rfl (by kernel_rfl) (by kernel_rfl) (by kernel_rfl) (fun _ _ _ h => h) (Or.inr ⟨by rfl, rfl⟩) (by assumption) ?_
    try simp only [Act.put, List.setIfInBounds_toArray, List.set_cons_zero, List.set_cons_succ]
    refine wpAnyH_take (i := 6) (oi := { dst := some 10, op := Op.move (Operand.tmp 9), type := 4, pos := "plant.go:109", after := #[{ on := 5, ground := Ground.data }, { on := 5, ground := Ground.chain }, { on := 3, ground := Ground.guard }], guard := some (3, true) }) (v := undef) rfl (by kernel_rfl) (by kernel_rfl) (by kernel_rfl) (fun _ _ _ h => h) (Or.inr ⟨by rfl, rfl⟩) (by assumption) ?_
    try simp only [Act.put, List.setIfInBounds_toArray, List.set_cons_zero, List.set_cons_succ]
    refine wpAnyH_take (i := 7) (oi := { dst := some 11, op := Op.fieldAddr 40 (Operand.tmp 1) 3, type := 0, pos := "plant.go:109", after := #[{ on := 6, ground := Ground.guard }, { on := 11, ground := Ground.gcOnly Departure.lateStores }], guard := some (6, false) }) (v := undef) rfl (by kernel_rfl) (by kernel_rfl) (by kernel_rfl) (fun _ _ _ h => h) (Or.inr ⟨by rfl, rfl⟩) (by assumption) ?_
    try simp only [Act.put, List.setIfInBounds_toArray, List.set_cons_zero, List.set_cons_succ]
    refine wpAnyH_take (i := 8) (oi := { dst := some 12, op := Op.load 4 (Operand.tmp 11), type := 4, pos := "plant.go:109", after := #[{ on := 7, ground := Ground.data }, { on := 6, ground := Ground.guard }, { on := 11, ground := Ground.gcOnly Departure.lateStores }], guard := some (6, false) }) (v := undef) rfl (by kernel_rfl) (by kernel_rfl) (by kernel_rfl) (fun _ _ _ h => h) (Or.inr ⟨by rfl, rfl⟩) (by assumption) ?_
    try simp only [Act.put, List.setIfInBounds_toArray, List.set_cons_zero, List.set_cons_succ]
    refine wpAnyH_take (i := 9) (oi := { dst := some 13, op := Op.pick (Operand.tmp 10) (Operand.const (Value.bool true)) (Operand.tmp 12), type := 4, pos := "plant.go:109", after := #[{ on := 6, ground := Ground.data }, { on := 8, ground := Ground.data }, { on := 3, ground := Ground.guard }, { on := 11, ground := Ground.gcOnly Departure.lateStores }], guard := some (3, true) }) (v := undef) rfl (by kernel_rfl) (by kernel_rfl) (by kernel_rfl) (fun _ _ _ h => h) (Or.inr ⟨by rfl, rfl⟩) (by assumption) ?_
    try simp only [Act.put, List.setIfInBounds_toArray, List.set_cons_zero, List.set_cons_succ]
    refine wpAnyH_take (i := 10) (oi := { dst := some 14, op := Op.pick (Operand.tmp 7) (Operand.tmp 13) (Operand.const (Value.bool false)), type := 4, pos := "plant.go:109", after := #[{ on := 3, ground := Ground.data }, { on := 9, ground := Ground.data }, { on := 11, ground := Ground.gcOnly Departure.lateStores }], guard := none }) (v := ?v9) rfl (by kernel_rfl) (by kernel_rfl) (by kernel_rfl) (fun _ _ _ h => h) (Or.inl ⟨by rfl, ?hy9⟩) (by assumption) ?rest9
    case hy9 => ((intro w hSw; (try dsimp only at hSw); go_simp) <;> (with_reducible rfl))
    try simp only [Act.put, List.setIfInBounds_toArray, List.set_cons_zero, List.set_cons_succ]
    refine wpAnyH_ready (rs := [11]) (by kernel_rfl) (by simp) ?_
    refine (AllReadyH.cons (o := { dst := none, op := Op.store 40 (Operand.tmp 2) (Operand.tmp 4), type := 0, pos := "plant.go:109", after := #[{ on := 0, ground := Ground.data }, { on := 6, ground := Ground.chain }, { on := 0, ground := Ground.phase }, { on := 1, ground := Ground.textOnly Departure.lateStores }, { on := 2, ground := Ground.textOnly Departure.lateStoresUnsure }, { on := 3, ground := Ground.textOnly Departure.lateStores }, { on := 4, ground := Ground.textOnly Departure.lateStores }, { on := 5, ground := Ground.textOnly Departure.lateStoresUnsure }, { on := 6, ground := Ground.textOnly Departure.lateStores }, { on := 7, ground := Ground.textOnly Departure.lateStores }, { on := 8, ground := Ground.textOnly Departure.lateStores }, { on := 9, ground := Ground.textOnly Departure.lateStores }, { on := 10, ground := Ground.textOnly Departure.lateStores }], guard := none }) rfl (fun K hK => ?_) AllReadyH.nil)
    go_simp
    refine hK.out _ _ ?_ (fun hHeld => ?_)
    · (try dsimp only)
      first | with_reducible exact ⟨y0, y1, y2, y3⟩ | exact (HQ.out.far4 (by omega)).cell
    clear hK K
    try simp only [Act.put, List.setIfInBounds_toArray, List.set_cons_zero, List.set_cons_succ]
    refine wpAnyH_take (i := 12) (oi := { dst := some 3, op := Op.assign (Operand.tmp 14), type := 4, pos := "plant.go:109", after := #[{ on := 10, ground := Ground.data }, { on := 11, ground := Ground.chain }, { on := 0, ground := Ground.phase }, { on := 1, ground := Ground.phase }, { on := 2, ground := Ground.phase }, { on := 3, ground := Ground.phase }, { on := 4, ground := Ground.phase }, { on := 5, ground := Ground.phase }, { on := 6, ground := Ground.phase }, { on := 7, ground := Ground.phase }, { on := 8, ground := Ground.phase }, { on := 9, ground := Ground.phase }, { on := 10, ground := Ground.phase }, { on := 11, ground := Ground.phase }], guard := none }) (v := ?v10) rfl (by kernel_rfl) (by kernel_rfl) (by kernel_rfl) (fun _ _ _ h => h) (Or.inl ⟨by rfl, ?hy10⟩) (by assumption) ?rest10
    case hy10 => ((intro w hSw; (try dsimp only at hSw); go_simp) <;> (with_reducible rfl))
    try simp only [Act.put, List.setIfInBounds_toArray, List.set_cons_zero, List.set_cons_succ]
    refine wpAnyH_done (by kernel_rfl) ?_ _
    refine NoPanic.normal ?_
    show K1 _ _
    refine hK1 _ _ ?_
    go_wp2
    exact bodyPost_ret (results_bd rfl _ _ _ offB _ rfl (HG.out.put4 offB) rfl) rfl ⟨rfl, HB8.out _ HB.out _ _ _ _⟩
  · rcases z with _ | _
    · go_enter Try.func37, Try.ntmps37
      go_wp2_with fail
      generalize ((w.alloc (.cells #[.int .i64 cel, .int .i64 dst, .bool srv, .bool flt] 40)).alloc (.cells #[.int .i64 0, .int .i64 0, .bool false, .bool false] 40)) = w3 at *
      rename_i Q1 K1 hK1
      replace HG : Hid (BodAt w3.drew (w.heap.size + 1) zeroB) := Lib.hid HG.out
      replace HQ : Hid (BodAt w3.drew w.heap.size ⟨cel, dst, srv, flt⟩) := Lib.hid HQ.out
      replace HB : Hid (Below w.heap.size w w3.drew) := Lib.hid HB.out.drew
      obtain ⟨y0, y1, y2, y3⟩ := HQ.out.cell
      obtain ⟨z0, z1, z2, z3⟩ := HG.out.cell
      have fq := HQ.out.frozen
      have fg := HG.out.frozen
      refine wp_region_noPanic ?_
      refine wp_region_held_drew (S := fun W => W.cell? ⟨w.heap.size, 0, none⟩ = some (.int .i64 cel) ∧ W.cell? ⟨w.heap.size, 1, none⟩ = some (.int .i64 dst) ∧ W.cell? ⟨w.heap.size, 2, none⟩ = some (.bool srv) ∧ W.cell? ⟨w.heap.size, 3, none⟩ = some (.bool flt)) (by kernel_rfl) ⟨y0, y1, y2, y3⟩ (fun hHeld => ?_)
      refine wpAnyH_take (i := 1) (oi := { dst := some 5, op := Op.load 40 (Operand.tmp 1), type := 40, pos := "plant.go:109", after := #[], guard := none }) (v := ?v11) rfl (by kernel_rfl) (by kernel_rfl) (by kernel_rfl) (fun _ _ _ h => h) (Or.inl ⟨by rfl, ?hy11⟩) (by assumption) ?rest11
      case hy11 => ((intro w hSw; (try dsimp only at hSw); go_simp) <;> (with_reducible rfl))
      try simp only [Act.put, List.setIfInBounds_toArray, List.set_cons_zero, List.set_cons_succ]
      refine wpAnyH_ready (rs := [0]) (by kernel_rfl) (by simp) ?_
      refine (AllReadyH.cons (o := { dst := some 4, op := Op.call { callee := Callee.value (Operand.func 38), args := #[Operand.const (Value.int IntKind.i64 (-1))], argTypes := #[3] }, type := 40, pos := "plant.go:109", after := #[], guard := none }) rfl (fun K hK => ?_) AllReadyH.nil)
      go_simp
      (first | (go_at_call 38; refine (HR.out _).mono ?_; rintro e w4 ⟨rfl, hb4⟩; replace HG := Lib.hid (HG.out.keep hb4); replace HQ := Lib.hid (HQ.out.keep hb4); replace HB := Lib.hid (HB.out.trans (hb4.mono HB.out.size)); clear y0 y1 y2 y3 z0 z1 z2 z3 fq fg hb4; obtain ⟨y0, y1, y2, y3⟩ := HQ.out.cell; obtain ⟨z0, z1, z2, z3⟩ := HG.out.cell; have fq := HQ.out.frozen; have fg := HG.out.frozen) | (go_at_call 33; refine (HF.out _).mono ?_; rintro e w4 ⟨rfl, hb4⟩; replace HG := Lib.hid (HG.out.keep hb4); replace HQ := Lib.hid (HQ.out.keep hb4); replace HB := Lib.hid (HB.out.trans (hb4.mono HB.out.size)); clear y0 y1 y2 y3 z0 z1 z2 z3 fq fg hb4; obtain ⟨y0, y1, y2, y3⟩ := HQ.out.cell; obtain ⟨z0, z1, z2, z3⟩ := HG.out.cell; have fq := HQ.out.frozen; have fg := HG.out.frozen) | (go_at_call 39; refine (HT.out _).mono ?_; rintro e w4 ⟨rfl, hb4⟩; replace HG := Lib.hid (HG.out.keep hb4); replace HQ := Lib.hid (HQ.out.keep hb4); replace HB := Lib.hid (HB.out.trans (hb4.mono HB.out.size)); clear y0 y1 y2 y3 z0 z1 z2 z3 fq fg hb4; obtain ⟨y0, y1, y2, y3⟩ := HQ.out.cell; obtain ⟨z0, z1, z2, z3⟩ := HG.out.cell; have fq := HQ.out.frozen; have fg := HG.out.frozen))
      go_wp2_with fail
      refine hK.out _ _ ?_ (fun hHeld => ?_)
      · (try dsimp only)
        first | with_reducible exact ⟨y0, y1, y2, y3⟩ | exact (HQ.out.far4 (by omega)).cell
      clear hK K
      try simp only [Act.put, List.setIfInBounds_toArray, List.set_cons_zero, List.set_cons_succ]
      refine wpAnyH_ready (rs := [2]) (by kernel_rfl) (by simp) ?_
      refine (AllReadyH.cons (o := { dst := some 6, op := Op.call { callee := Callee.value (Operand.func 33), args := #[Operand.tmp 5], argTypes := #[40] }, type := 4, pos := "plant.go:109", after := #[{ on := 1, ground := Ground.data }, { on := 0, ground := Ground.chain }], guard := none }) rfl (fun K hK => ?_) AllReadyH.nil)
      go_simp
      (first | (go_at_call 38; refine (HR.out _).mono ?_; rintro e w4 ⟨rfl, hb4⟩; replace HG := Lib.hid (HG.out.keep hb4); replace HQ := Lib.hid (HQ.out.keep hb4); replace HB := Lib.hid (HB.out.trans (hb4.mono HB.out.size)); clear y0 y1 y2 y3 z0 z1 z2 z3 fq fg hb4; obtain ⟨y0, y1, y2, y3⟩ := HQ.out.cell; obtain ⟨z0, z1, z2, z3⟩ := HG.out.cell; have fq := HQ.out.frozen; have fg := HG.out.frozen) | (go_at_call 33; refine (HF.out _).mono ?_; rintro e w4 ⟨rfl, hb4⟩; replace HG := Lib.hid (HG.out.keep hb4); replace HQ := Lib.hid (HQ.out.keep hb4); replace HB := Lib.hid (HB.out.trans (hb4.mono HB.out.size)); clear y0 y1 y2 y3 z0 z1 z2 z3 fq fg hb4; obtain ⟨y0, y1, y2, y3⟩ := HQ.out.cell; obtain ⟨z0, z1, z2, z3⟩ := HG.out.cell; have fq := HQ.out.frozen; have fg := HG.out.frozen) | (go_at_call 39; refine (HT.out _).mono ?_; rintro e w4 ⟨rfl, hb4⟩; replace HG := Lib.hid (HG.out.keep hb4); replace HQ := Lib.hid (HQ.out.keep hb4); replace HB := Lib.hid (HB.out.trans (hb4.mono HB.out.size)); clear y0 y1 y2 y3 z0 z1 z2 z3 fq fg hb4; obtain ⟨y0, y1, y2, y3⟩ := HQ.out.cell; obtain ⟨z0, z1, z2, z3⟩ := HG.out.cell; have fq := HQ.out.frozen; have fg := HG.out.frozen))
      go_wp2_with fail
      refine hK.out _ _ ?_ (fun hHeld => ?_)
      · (try dsimp only)
        first | with_reducible exact ⟨y0, y1, y2, y3⟩ | exact (HQ.out.far4 (by omega)).cell
      clear hK K
      try simp only [Act.put, List.setIfInBounds_toArray, List.set_cons_zero, List.set_cons_succ]
      refine wpAnyH_take (i := 3) (oi := { dst := some 7, op := Op.move (Operand.tmp 6), type := 4, pos := "plant.go:109", after := #[{ on := 2, ground := Ground.data }, { on := 2, ground := Ground.chain }], guard := none }) (v := ?v12) rfl (by kernel_rfl) (by kernel_rfl) (by kernel_rfl) (fun _ _ _ h => h) (Or.inl ⟨by rfl, ?hy12⟩) (by assumption) ?rest12
      case hy12 => ((intro w hSw; (try dsimp only at hSw); go_simp) <;> (with_reducible rfl))
      try simp only [Act.put, List.setIfInBounds_toArray, List.set_cons_zero, List.set_cons_succ]
      refine wpAnyH_take (i := 4) (oi := { dst := some 8, op := Op.load 40 (Operand.tmp 1), type := 40, pos := "plant.go:109", after := #[{ on := 3, ground := Ground.guard }], guard := some (3, true) }) (v := ?v13) rfl (by kernel_rfl) (by kernel_rfl) (by kernel_rfl) (fun _ _ _ h => h) (Or.inl ⟨by rfl, ?hy13⟩) (by assumption) ?rest13
      case hy13 => ((intro w hSw; (try dsimp only at hSw); go_simp) <;> (with_reducible rfl))
      try simp only [Act.put, List.setIfInBounds_toArray, List.set_cons_zero, List.set_cons_succ]
      refine wpAnyH_ready (rs := [5]) (by kernel_rfl) (by simp) ?_
      refine (AllReadyH.cons (o := { dst := some 9, op := Op.call { callee := Callee.value (Operand.func 39), args := #[Operand.tmp 8], argTypes := #[40] }, type := 4, pos := "plant.go:109", after := #[{ on := 4, ground := Ground.data }, { on := 3, ground := Ground.chain }, { on := 3, ground := Ground.guard }], guard := some (3, true) }) rfl (fun K hK => ?_) AllReadyH.nil)
      go_simp
      (first | (go_at_call 38; refine (HR.out _).mono ?_; rintro e w4 ⟨rfl, hb4⟩; replace HG := Lib.hid (HG.out.keep hb4); replace HQ := Lib.hid (HQ.out.keep hb4); replace HB := Lib.hid (HB.out.trans (hb4.mono HB.out.size)); clear y0 y1 y2 y3 z0 z1 z2 z3 fq fg hb4; obtain ⟨y0, y1, y2, y3⟩ := HQ.out.cell; obtain ⟨z0, z1, z2, z3⟩ := HG.out.cell; have fq := HQ.out.frozen; have fg := HG.out.frozen) | (go_at_call 33; refine (HF.out _).mono ?_; rintro e w4 ⟨rfl, hb4⟩; replace HG := Lib.hid (HG.out.keep hb4); replace HQ := Lib.hid (HQ.out.keep hb4); replace HB := Lib.hid (HB.out.trans (hb4.mono HB.out.size)); clear y0 y1 y2 y3 z0 z1 z2 z3 fq fg hb4; obtain ⟨y0, y1, y2, y3⟩ := HQ.out.cell; obtain ⟨z0, z1, z2, z3⟩ := HG.out.cell; have fq := HQ.out.frozen; have fg := HG.out.frozen) | (go_at_call 39; refine (HT.out _).mono ?_; rintro e w4 ⟨rfl, hb4⟩; replace HG := Lib.hid (HG.out.keep hb4); replace HQ := Lib.hid (HQ.out.keep hb4); replace HB := Lib.hid (HB.out.trans (hb4.mono HB.out.size)); clear y0 y1 y2 y3 z0 z1 z2 z3 fq fg hb4; obtain ⟨y0, y1, y2, y3⟩ := HQ.out.cell; obtain ⟨z0, z1, z2, z3⟩ := HG.out.cell; have fq := HQ.out.frozen; have fg := HG.out.frozen))
      go_wp2_with fail
      refine hK.out _ _ ?_ (fun hHeld => ?_)
      · (try dsimp only)
        first | with_reducible exact ⟨y0, y1, y2, y3⟩ | exact (HQ.out.far4 (by omega)).cell
      clear hK K
      try simp only [Act.put, List.setIfInBounds_toArray, List.set_cons_zero, List.set_cons_succ]
      refine wpAnyH_take (i := 6) (oi := { dst := some 10, op := Op.move (Operand.tmp 9), type := 4, pos := "plant.go:109", after := #[{ on := 5, ground := Ground.data }, { on := 5, ground := Ground.chain }, { on := 3, ground := Ground.guard }], guard := some (3, true) }) (v := ?v14) rfl (by kernel_rfl) (by kernel_rfl) (by kernel_rfl) (fun _ _ _ h => h) (Or.inl ⟨by rfl, ?hy14⟩) (by assumption) ?rest14
      case hy14 => ((intro w hSw; (try dsimp only at hSw); go_simp) <;> (with_reducible rfl))
      try simp only [Act.put, List.setIfInBounds_toArray, List.set_cons_zero, List.set_cons_succ]
      refine wpAnyH_take (i := 7) (oi := { dst := some 11, op := Op.fieldAddr 40 (Operand.tmp 1) 3, type := 0, pos := "plant.go:109", after := #[{ on := 6, ground := Ground.guard }, { on := 11, ground := Ground.gcOnly Departure.lateStores }], guard := some (6, false) }) (v := ?v15) rfl (by kernel_rfl) (by kernel_rfl) (by kernel_rfl) (fun _ _ _ h => h) (Or.inl ⟨by rfl, ?hy15⟩) (by assumption) ?rest15
      case hy15 => ((intro w hSw; (try dsimp only at hSw); go_simp) <;> (with_reducible rfl))
      try simp only [Act.put, List.setIfInBounds_toArray, List.set_cons_zero, List.set_cons_succ]
      refine wpAnyH_take (i := 8) (oi := { dst := some 12, op := Op.load 4 (Operand.tmp 11), type := 4, pos := "plant.go:109", after := #[{ on := 7, ground := Ground.data }, { on := 6, ground := Ground.guard }, { on := 11, ground := Ground.gcOnly Departure.lateStores }], guard := some (6, false) }) (v := ?v16) rfl (by kernel_rfl) (by kernel_rfl) (by kernel_rfl) (fun _ _ _ h => h) (Or.inl ⟨by rfl, ?hy16⟩) (by assumption) ?rest16
      case hy16 => ((intro w hSw; (try dsimp only at hSw); go_simp) <;> (with_reducible rfl))
      try simp only [Act.put, List.setIfInBounds_toArray, List.set_cons_zero, List.set_cons_succ]
      refine wpAnyH_take (i := 9) (oi := { dst := some 13, op := Op.pick (Operand.tmp 10) (Operand.const (Value.bool true)) (Operand.tmp 12), type := 4, pos := "plant.go:109", after := #[{ on := 6, ground := Ground.data }, { on := 8, ground := Ground.data }, { on := 3, ground := Ground.guard }, { on := 11, ground := Ground.gcOnly Departure.lateStores }], guard := some (3, true) }) (v := ?v17) rfl (by kernel_rfl) (by kernel_rfl) (by kernel_rfl) (fun _ _ _ h => h) (Or.inl ⟨by rfl, ?hy17⟩) (by assumption) ?rest17
      case hy17 => ((intro w hSw; (try dsimp only at hSw); go_simp) <;> (with_reducible rfl))
      try simp only [Act.put, List.setIfInBounds_toArray, List.set_cons_zero, List.set_cons_succ]
      refine wpAnyH_take (i := 10) (oi := { dst := some 14, op := Op.pick (Operand.tmp 7) (Operand.tmp 13) (Operand.const (Value.bool false)), type := 4, pos := "plant.go:109", after := #[{ on := 3, ground := Ground.data }, { on := 9, ground := Ground.data }, { on := 11, ground := Ground.gcOnly Departure.lateStores }], guard := none }) (v := ?v18) rfl (by kernel_rfl) (by kernel_rfl) (by kernel_rfl) (fun _ _ _ h => h) (Or.inl ⟨by rfl, ?hy18⟩) (by assumption) ?rest18
      case hy18 => ((intro w hSw; (try dsimp only at hSw); go_simp) <;> (with_reducible rfl))
      try simp only [Act.put, List.setIfInBounds_toArray, List.set_cons_zero, List.set_cons_succ]
      refine wpAnyH_ready (rs := [11]) (by kernel_rfl) (by simp) ?_
      refine (AllReadyH.cons (o := { dst := none, op := Op.store 40 (Operand.tmp 2) (Operand.tmp 4), type := 0, pos := "plant.go:109", after := #[{ on := 0, ground := Ground.data }, { on := 6, ground := Ground.chain }, { on := 0, ground := Ground.phase }, { on := 1, ground := Ground.textOnly Departure.lateStores }, { on := 2, ground := Ground.textOnly Departure.lateStoresUnsure }, { on := 3, ground := Ground.textOnly Departure.lateStores }, { on := 4, ground := Ground.textOnly Departure.lateStores }, { on := 5, ground := Ground.textOnly Departure.lateStoresUnsure }, { on := 6, ground := Ground.textOnly Departure.lateStores }, { on := 7, ground := Ground.textOnly Departure.lateStores }, { on := 8, ground := Ground.textOnly Departure.lateStores }, { on := 9, ground := Ground.textOnly Departure.lateStores }, { on := 10, ground := Ground.textOnly Departure.lateStores }], guard := none }) rfl (fun K hK => ?_) AllReadyH.nil)
      go_simp
      refine hK.out _ _ ?_ (fun hHeld => ?_)
      · (try dsimp only)
        first | with_reducible exact ⟨y0, y1, y2, y3⟩ | exact (HQ.out.far4 (by omega)).cell
      clear hK K
      try simp only [Act.put, List.setIfInBounds_toArray, List.set_cons_zero, List.set_cons_succ]
      refine wpAnyH_take (i := 12) (oi := { dst := some 3, op := Op.assign (Operand.tmp 14), type := 4, pos := "plant.go:109", after := #[{ on := 10, ground := Ground.data }, { on := 11, ground := Ground.chain }, { on := 0, ground := Ground.phase }, { on := 1, ground := Ground.phase }, { on := 2, ground := Ground.phase }, { on := 3, ground := Ground.phase }, { on := 4, ground := Ground.phase }, { on := 5, ground := Ground.phase }, { on := 6, ground := Ground.phase }, { on := 7, ground := Ground.phase }, { on := 8, ground := Ground.phase }, { on := 9, ground := Ground.phase }, { on := 10, ground := Ground.phase }, { on := 11, ground := Ground.phase }], guard := none }) (v := ?v19) rfl (by kernel_rfl) (by kernel_rfl) (by kernel_rfl) (fun _ _ _ h => h) (Or.inl ⟨by rfl, ?hy19⟩) (by assumption) ?rest19
      case hy19 => ((intro w hSw; (try dsimp only at hSw); go_simp) <;> (with_reducible rfl))
      try simp only [Act.put, List.setIfInBounds_toArray, List.set_cons_zero, List.set_cons_succ]
      refine wpAnyH_done (by kernel_rfl) ?_ _
      refine NoPanic.normal ?_
      show K1 _ _
      refine hK1 _ _ ?_
      go_wp2
      exact bodyPost_ret (results_bd rfl _ _ _ offB _ rfl (HG.out.put4 offB) rfl) rfl ⟨rfl, HB8.out _ HB.out _ _ _ _⟩
    · go_enter Try.func37, Try.ntmps37
      go_wp2_with fail
      generalize ((w.alloc (.cells #[.int .i64 cel, .int .i64 dst, .bool srv, .bool flt] 40)).alloc (.cells #[.int .i64 0, .int .i64 0, .bool false, .bool false] 40)) = w3 at *
      rename_i Q1 K1 hK1
      replace HG : Hid (BodAt w3.drew (w.heap.size + 1) zeroB) := Lib.hid HG.out
      replace HQ : Hid (BodAt w3.drew w.heap.size ⟨cel, dst, srv, flt⟩) := Lib.hid HQ.out
      replace HB : Hid (Below w.heap.size w w3.drew) := Lib.hid HB.out.drew
      obtain ⟨y0, y1, y2, y3⟩ := HQ.out.cell
      obtain ⟨z0, z1, z2, z3⟩ := HG.out.cell
      have fq := HQ.out.frozen
      have fg := HG.out.frozen
      refine wp_region_noPanic ?_
      refine wp_region_held_drew (S := fun W => W.cell? ⟨w.heap.size, 0, none⟩ = some (.int .i64 cel) ∧ W.cell? ⟨w.heap.size, 1, none⟩ = some (.int .i64 dst) ∧ W.cell? ⟨w.heap.size, 2, none⟩ = some (.bool srv) ∧ W.cell? ⟨w.heap.size, 3, none⟩ = some (.bool flt)) (by kernel_rfl) ⟨y0, y1, y2, y3⟩ (fun hHeld => ?_)
      refine wpAnyH_take (i := 1) (oi := { dst := some 5, op := Op.load 40 (Operand.tmp 1), type := 40, pos := "plant.go:109", after := #[], guard := none }) (v := ?v20) rfl (by kernel_rfl) (by kernel_rfl) (by kernel_rfl) (fun _ _ _ h => h) (Or.inl ⟨by rfl, ?hy20⟩) (by assumption) ?rest20
      case hy20 => ((intro w hSw; (try dsimp only at hSw); go_simp) <;> (with_reducible rfl))
      try simp only [Act.put, List.setIfInBounds_toArray, List.set_cons_zero, List.set_cons_succ]
      refine wpAnyH_ready (rs := [0]) (by kernel_rfl) (by simp) ?_
      refine (AllReadyH.cons (o := { dst := some 4, op := Op.call { callee := Callee.value (Operand.func 38), args := #[Operand.const (Value.int IntKind.i64 (-1))], argTypes := #[3] }, type := 40, pos := "plant.go:109", after := #[], guard := none }) rfl (fun K hK => ?_) AllReadyH.nil)
      go_simp
      (first | (go_at_call 38; refine (HR.out _).mono ?_; rintro e w4 ⟨rfl, hb4⟩; replace HG := Lib.hid (HG.out.keep hb4); replace HQ := Lib.hid (HQ.out.keep hb4); replace HB := Lib.hid (HB.out.trans (hb4.mono HB.out.size)); clear y0 y1 y2 y3 z0 z1 z2 z3 fq fg hb4; obtain ⟨y0, y1, y2, y3⟩ := HQ.out.cell; obtain ⟨z0, z1, z2, z3⟩ := HG.out.cell; have fq := HQ.out.frozen; have fg := HG.out.frozen) | (go_at_call 33; refine (HF.out _).mono ?_; rintro e w4 ⟨rfl, hb4⟩; replace HG := Lib.hid (HG.out.keep hb4); replace HQ := Lib.hid (HQ.out.keep hb4); replace HB := Lib.hid (HB.out.trans (hb4.mono HB.out.size)); clear y0 y1 y2 y3 z0 z1 z2 z3 fq fg hb4; obtain ⟨y0, y1, y2, y3⟩ := HQ.out.cell; obtain ⟨z0, z1, z2, z3⟩ := HG.out.cell; have fq := HQ.out.frozen; have fg := HG.out.frozen) | (go_at_call 39; refine (HT.out _).mono ?_; rintro e w4 ⟨rfl, hb4⟩; replace HG := Lib.hid (HG.out.keep hb4); replace HQ := Lib.hid (HQ.out.keep hb4); replace HB := Lib.hid (HB.out.trans (hb4.mono HB.out.size)); clear y0 y1 y2 y3 z0 z1 z2 z3 fq fg hb4; obtain ⟨y0, y1, y2, y3⟩ := HQ.out.cell; obtain ⟨z0, z1, z2, z3⟩ := HG.out.cell; have fq := HQ.out.frozen; have fg := HG.out.frozen))
      go_wp2_with fail
      refine hK.out _ _ ?_ (fun hHeld => ?_)
      · (try dsimp only)
        first | with_reducible exact ⟨y0, y1, y2, y3⟩ | exact (HQ.out.far4 (by omega)).cell
      clear hK K
      try simp only [Act.put, List.setIfInBounds_toArray, List.set_cons_zero, List.set_cons_succ]
      refine wpAnyH_ready (rs := [2]) (by kernel_rfl) (by simp) ?_
      refine (AllReadyH.cons (o := { dst := some 6, op := Op.call { callee := Callee.value (Operand.func 33), args := #[Operand.tmp 5], argTypes := #[40] }, type := 4, pos := "plant.go:109", after := #[{ on := 1, ground := Ground.data }, { on := 0, ground := Ground.chain }], guard := none }) rfl (fun K hK => ?_) AllReadyH.nil)
      go_simp
      (first | (go_at_call 38; refine (HR.out _).mono ?_; rintro e w4 ⟨rfl, hb4⟩; replace HG := Lib.hid (HG.out.keep hb4); replace HQ := Lib.hid (HQ.out.keep hb4); replace HB := Lib.hid (HB.out.trans (hb4.mono HB.out.size)); clear y0 y1 y2 y3 z0 z1 z2 z3 fq fg hb4; obtain ⟨y0, y1, y2, y3⟩ := HQ.out.cell; obtain ⟨z0, z1, z2, z3⟩ := HG.out.cell; have fq := HQ.out.frozen; have fg := HG.out.frozen) | (go_at_call 33; refine (HF.out _).mono ?_; rintro e w4 ⟨rfl, hb4⟩; replace HG := Lib.hid (HG.out.keep hb4); replace HQ := Lib.hid (HQ.out.keep hb4); replace HB := Lib.hid (HB.out.trans (hb4.mono HB.out.size)); clear y0 y1 y2 y3 z0 z1 z2 z3 fq fg hb4; obtain ⟨y0, y1, y2, y3⟩ := HQ.out.cell; obtain ⟨z0, z1, z2, z3⟩ := HG.out.cell; have fq := HQ.out.frozen; have fg := HG.out.frozen) | (go_at_call 39; refine (HT.out _).mono ?_; rintro e w4 ⟨rfl, hb4⟩; replace HG := Lib.hid (HG.out.keep hb4); replace HQ := Lib.hid (HQ.out.keep hb4); replace HB := Lib.hid (HB.out.trans (hb4.mono HB.out.size)); clear y0 y1 y2 y3 z0 z1 z2 z3 fq fg hb4; obtain ⟨y0, y1, y2, y3⟩ := HQ.out.cell; obtain ⟨z0, z1, z2, z3⟩ := HG.out.cell; have fq := HQ.out.frozen; have fg := HG.out.frozen))
      go_wp2_with fail
      refine hK.out _ _ ?_ (fun hHeld => ?_)
      · (try dsimp only)
        first | with_reducible exact ⟨y0, y1, y2, y3⟩ | exact (HQ.out.far4 (by omega)).cell
      clear hK K
      try simp only [Act.put, List.setIfInBounds_toArray, List.set_cons_zero, List.set_cons_succ]
      refine wpAnyH_take (i := 3) (oi := { dst := some 7, op := Op.move (Operand.tmp 6), type := 4, pos := "plant.go:109", after := #[{ on := 2, ground := Ground.data }, { on := 2, ground := Ground.chain }], guard := none }) (v := ?v21) rfl (by kernel_rfl) (by kernel_rfl) (by kernel_rfl) (fun _ _ _ h => h) (Or.inl ⟨by rfl, ?hy21⟩) (by assumption) ?rest21
      case hy21 => ((intro w hSw; (try dsimp only at hSw); go_simp) <;> (with_reducible rfl))
      try simp only [Act.put, List.setIfInBounds_toArray, List.set_cons_zero, List.set_cons_succ]
      refine wpAnyH_take (i := 4) (oi := { dst := some 8, op := Op.load 40 (Operand.tmp 1), type := 40, pos := "plant.go:109", after := #[{ on := 3, ground := Ground.guard }], guard := some (3, true) }) (v := ?v22) rfl (by kernel_rfl) (by kernel_rfl) (by kernel_rfl) (fun _ _ _ h => h) (Or.inl ⟨by rfl, ?hy22⟩) (by assumption) ?rest22
      case hy22 => ((intro w hSw; (try dsimp only at hSw); go_simp) <;> (with_reducible rfl))
      try simp only [Act.put, List.setIfInBounds_toArray, List.set_cons_zero, List.set_cons_succ]
      refine wpAnyH_ready (rs := [5]) (by kernel_rfl) (by simp) ?_
      refine (AllReadyH.cons (o := { dst := some 9, op := Op.call { callee := Callee.value (Operand.func 39), args := #[Operand.tmp 8], argTypes := #[40] }, type := 4, pos := "plant.go:109", after := #[{ on := 4, ground := Ground.data }, { on := 3, ground := Ground.chain }, { on := 3, ground := Ground.guard }], guard := some (3, true) }) rfl (fun K hK => ?_) AllReadyH.nil)
      go_simp
      (first | (go_at_call 38; refine (HR.out _).mono ?_; rintro e w4 ⟨rfl, hb4⟩; replace HG := Lib.hid (HG.out.keep hb4); replace HQ := Lib.hid (HQ.out.keep hb4); replace HB := Lib.hid (HB.out.trans (hb4.mono HB.out.size)); clear y0 y1 y2 y3 z0 z1 z2 z3 fq fg hb4; obtain ⟨y0, y1, y2, y3⟩ := HQ.out.cell; obtain ⟨z0, z1, z2, z3⟩ := HG.out.cell; have fq := HQ.out.frozen; have fg := HG.out.frozen) | (go_at_call 33; refine (HF.out _).mono ?_; rintro e w4 ⟨rfl, hb4⟩; replace HG := Lib.hid (HG.out.keep hb4); replace HQ := Lib.hid (HQ.out.keep hb4); replace HB := Lib.hid (HB.out.trans (hb4.mono HB.out.size)); clear y0 y1 y2 y3 z0 z1 z2 z3 fq fg hb4; obtain ⟨y0, y1, y2, y3⟩ := HQ.out.cell; obtain ⟨z0, z1, z2, z3⟩ := HG.out.cell; have fq := HQ.out.frozen; have fg := HG.out.frozen) | (go_at_call 39; refine (HT.out _).mono ?_; rintro e w4 ⟨rfl, hb4⟩; replace HG := Lib.hid (HG.out.keep hb4); replace HQ := Lib.hid (HQ.out.keep hb4); replace HB := Lib.hid (HB.out.trans (hb4.mono HB.out.size)); clear y0 y1 y2 y3 z0 z1 z2 z3 fq fg hb4; obtain ⟨y0, y1, y2, y3⟩ := HQ.out.cell; obtain ⟨z0, z1, z2, z3⟩ := HG.out.cell; have fq := HQ.out.frozen; have fg := HG.out.frozen))
      go_wp2_with fail
      refine hK.out _ _ ?_ (fun hHeld => ?_)
      · (try dsimp only)
        first | with_reducible exact ⟨y0, y1, y2, y3⟩ | exact (HQ.out.far4 (by omega)).cell
      clear hK K
      try simp only [Act.put, List.setIfInBounds_toArray, List.set_cons_zero, List.set_cons_succ]
      refine wpAnyH_take (i := 6) (oi := { dst := some 10, op := Op.move (Operand.tmp 9), type := 4, pos := "plant.go:109", after := #[{ on := 5, ground := Ground.data }, { on := 5, ground := Ground.chain }, { on := 3, ground := Ground.guard }], guard := some (3, true) }) (v := ?v23) rfl (by kernel_rfl) (by kernel_rfl) (by kernel_rfl) (fun _ _ _ h => h) (Or.inl ⟨by rfl, ?hy23⟩) (by assumption) ?rest23
      case hy23 => ((intro w hSw; (try dsimp only at hSw); go_simp) <;> (with_reducible rfl))
      try simp only [Act.put, List.setIfInBounds_toArray, List.set_cons_zero, List.set_cons_succ]
      refine wpAnyH_take (i := 7) (oi := { dst := some 11, op := Op.fieldAddr 40 (Operand.tmp 1) 3, type := 0, pos := "plant.go:109", after := #[{ on := 6, ground := Ground.guard }, { on := 11, ground := Ground.gcOnly Departure.lateStores }], guard := some (6, false) }) (v := undef) rfl (by kernel_rfl) (by kernel_rfl) (by kernel_rfl) (fun _ _ _ h => h) (Or.inr ⟨by rfl, rfl⟩) (by assumption) ?_
      try simp only [Act.put, List.setIfInBounds_toArray, List.set_cons_zero, List.set_cons_succ]
      refine wpAnyH_take (i := 8) (oi := { dst := some 12, op := Op.load 4 (Operand.tmp 11), type := 4, pos := "plant.go:109", after := #[{ on := 7, ground := Ground.data }, { on := 6, ground := Ground.guard }, { on := 11, ground := Ground.gcOnly Departure.lateStores }], guard := some (6, false) }) (v := undef) rfl (by kernel_rfl) (by kernel_rfl) (by kernel_rfl) (fun _ _ _ h => h) (Or.inr ⟨by rfl, rfl⟩) (by assumption) ?_
      try simp only [Act.put, List.setIfInBounds_toArray, List.set_cons_zero, List.set_cons_succ]
      refine wpAnyH_take (i := 9) (oi := { dst := some 13, op := Op.pick (Operand.tmp 10) (Operand.const (Value.bool true)) (Operand.tmp 12), type := 4, pos := "plant.go:109", after := #[{ on := 6, ground := Ground.data }, { on := 8, ground := Ground.data }, { on := 3, ground := Ground.guard }, { on := 11, ground := Ground.gcOnly Departure.lateStores }], guard := some (3, true) }) (v := ?v24) rfl (by kernel_rfl) (by kernel_rfl) (by kernel_rfl) (fun _ _ _ h => h) (Or.inl ⟨by rfl, ?hy24⟩) (by assumption) ?rest24
      case hy24 => ((intro w hSw; (try dsimp only at hSw); go_simp) <;> (with_reducible rfl))
      try simp only [Act.put, List.setIfInBounds_toArray, List.set_cons_zero, List.set_cons_succ]
      refine wpAnyH_take (i := 10) (oi := { dst := some 14, op := Op.pick (Operand.tmp 7) (Operand.tmp 13) (Operand.const (Value.bool false)), type := 4, pos := "plant.go:109", after := #[{ on := 3, ground := Ground.data }, { on := 9, ground := Ground.data }, { on := 11, ground := Ground.gcOnly Departure.lateStores }], guard := none }) (v := ?v25) rfl (by kernel_rfl) (by kernel_rfl) (by kernel_rfl) (fun _ _ _ h => h) (Or.inl ⟨by rfl, ?hy25⟩) (by assumption) ?rest25
      case hy25 => ((intro w hSw; (try dsimp only at hSw); go_simp) <;> (with_reducible rfl))
      try simp only [Act.put, List.setIfInBounds_toArray, List.set_cons_zero, List.set_cons_succ]
      refine wpAnyH_ready (rs := [11]) (by kernel_rfl) (by simp) ?_
      refine (AllReadyH.cons (o := { dst := none, op := Op.store 40 (Operand.tmp 2) (Operand.tmp 4), type := 0, pos := "plant.go:109", after := #[{ on := 0, ground := Ground.data }, { on := 6, ground := Ground.chain }, { on := 0, ground := Ground.phase }, { on := 1, ground := Ground.textOnly Departure.lateStores }, { on := 2, ground := Ground.textOnly Departure.lateStoresUnsure }, { on := 3, ground := Ground.textOnly Departure.lateStores }, { on := 4, ground := Ground.textOnly Departure.lateStores }, { on := 5, ground := Ground.textOnly Departure.lateStoresUnsure }, { on := 6, ground := Ground.textOnly Departure.lateStores }, { on := 7, ground := Ground.textOnly Departure.lateStores }, { on := 8, ground := Ground.textOnly Departure.lateStores }, { on := 9, ground := Ground.textOnly Departure.lateStores }, { on := 10, ground := Ground.textOnly Departure.lateStores }], guard := none }) rfl (fun K hK => ?_) AllReadyH.nil)
      go_simp
      refine hK.out _ _ ?_ (fun hHeld => ?_)
      · (try dsimp only)
        first | with_reducible exact ⟨y0, y1, y2, y3⟩ | exact (HQ.out.far4 (by omega)).cell
      clear hK K
      try simp only [Act.put, List.setIfInBounds_toArray, List.set_cons_zero, List.set_cons_succ]
      refine wpAnyH_take (i := 12) (oi := { dst := some 3, op := Op.assign (Operand.tmp 14), type := 4, pos := "plant.go:109", after := #[{ on := 10, ground := Ground.data }, { on := 11, ground := Ground.chain }, { on := 0, ground := Ground.phase }, { on := 1, ground := Ground.phase }, { on := 2, ground := Ground.phase }, { on := 3, ground := Ground.phase }, { on := 4, ground := Ground.phase }, { on := 5, ground := Ground.phase }, { on := 6, ground := Ground.phase }, { on := 7, ground := Ground.phase }, { on := 8, ground := Ground.phase }, { on := 9, ground := Ground.phase }, { on := 10, ground := Ground.phase }, { on := 11, ground := Ground.phase }], guard := none }) (v := ?v26) rfl (by kernel_rfl) (by kernel_rfl) (by kernel_rfl) (fun _ _ _ h => h) (Or.inl ⟨by rfl, ?hy26⟩) (by assumption) ?rest26
      case hy26 => ((intro w hSw; (try dsimp only at hSw); go_simp) <;> (with_reducible rfl))
      try simp only [Act.put, List.setIfInBounds_toArray, List.set_cons_zero, List.set_cons_succ]
      refine wpAnyH_done (by kernel_rfl) ?_ _
      refine NoPanic.normal ?_
      show K1 _ _
      refine hK1 _ _ ?_
      go_wp2
      exact bodyPost_ret (results_bd rfl _ _ _ offB _ rfl (HG.out.put4 offB) rfl) rfl ⟨rfl, HB8.out _ HB.out _ _ _ _⟩
end Go.Proofs.Ytjbhmeeebacnpaa
