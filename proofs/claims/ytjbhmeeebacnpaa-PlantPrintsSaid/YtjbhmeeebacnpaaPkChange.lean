/- Contracts of slices.Clone of bodies and of the landed change: an action is a function that is handed in. -/
import Derived.Test.YtjbhmeeebacnpaaPnDo
import Derived.Lib.SliceRun
namespace Go.Proofs.Ytjbhmeeebacnpaa
open Go Go.RowKit Fl

set_option maxRecDepth 100000 in
set_option maxHeartbeats 2000000 in
theorem cloneB_c (A : Option Addr) (c : Nat) (l : List BodD) (w : World) (hh : Holds w A (bodS.cs l)) (hl : l.length ≤ 5864062014805) :
    Calls Try.prog 54 #[.slice A l.length c] w fun e w' => ∃ u, e = .returned u ∧ bodS.Own w' w.heap.size u l ∧ Below w.heap.size w w' := by
  have hq : ∀ (w : World) (a : Option Addr) (n c n' c' : Nat), (binOp .eql 30 (.slice a n c) (.slice none n' c')).run Try.prog w = .ok (.bool a.isNone) w := fun w a n c n' c' => Lib.run_eql_slice_nil w _ _ a n c n' c' Try.underlying30
  rcases A with _ | ad
  · have hl0 : l = [] := by
      rcases hh with h | ⟨b', o', hA, _⟩
      · have h1 := congrArg List.length h
        rw [bodS.cs_length] at h1
        simp only [List.length_nil] at h1
        rcases Nat.mul_eq_zero.1 h1 with h2 | h2
        · exact List.eq_nil_of_length_eq_zero h2
        · exact absurd h2 (by decide)
      · cases hA
    subst hl0
    have HB := Lib.hid (Below.refl w.heap.size w)
    clear hh
    go_enter Try.func54, Try.ntmps54
    go_wp2
    go_ret
    exact ⟨_, rfl, StK.Own.nil _ _ _, HB.out⟩
  · have HB0 := Lib.hid (below_newB w (.cells #[] 40))
    have HA : Hid (bodS.Arg (w.alloc (.cells #[] 40)) (.slice (some ad) l.length c) l) := Lib.hid (StK.Arg.all (hh.keep HB0.out) c)
    have HO : Hid (bodS.Own (w.alloc (.cells #[] 40)) w.heap.size (.slice (some ⟨w.heap.size, 0, none⟩) 0 0) []) := Lib.hid (World.ownsRow_made w #[] 0 (Nat.le_refl _) (Nat.zero_le _) rfl)
    have hs : w.heap.size ≤ (w.alloc (.cells #[] 40)).heap.size := by simp
    clear hh
    go_enter Try.func54, Try.ntmps54
    go_wp2_with (at_builtin; refine StK.app_moreB (S := bodS) _ rfl _ _ (by rfl) w.heap.size _ [] (by rfl) HO.out _ l (by rfl) HA.out (by simp; unfold maxLen; omega) (by rw [show bodS.bytes = 24 from rfl]; simp; omega) hs ?_)
    intro v2 w2 hO2 hg2
    have HO2 : Hid (bodS.Own w2 w.heap.size v2 l) := Lib.hid hO2
    have HB2 := Lib.hid (HB0.out.grown hg2 hs (fun k hk => by simp [Value.ownBlock] at hk; omega))
    clear hO2 hg2
    go_wp2
    go_ret
    exact ⟨v2, rfl, HO2.out, HB2.out⟩
/-- What change returns, of an action that gives q and ok. -/
def chE (l : List BodD) (r : Int) (ok : Bool) : Int := if 0 ≤ r ∧ r < (l.length : Int) then (if ok = true then 0 else 24) else 19
def chL (l : List BodD) (r : Int) (q : BodD) (ok : Bool) : List BodD := if 0 ≤ r ∧ r < (l.length : Int) then (if ok = true then l.set r.toNat q else []) else []
/-- A function of the program is entered. -/
def Enters (F : Nat) : Prop := ∀ (args : Array Value) (W : World), (callFunc F args).run Try.prog W = .ok (.enter F args) W
theorem enters {F : Nat} {fn : Func} {c : Code} (hf : Try.prog.funcs[F]? = some fn) (hname : (fn.name == "runtime.NumGoroutine") = false) (hb : fn.body = some c) : Enters F := fun args W => by
  have h1 : fn.name ≠ "runtime.NumGoroutine" := by simpa using hname
  simp [callFunc, hf, h1, hb]
set_option maxRecDepth 100000 in
set_option maxHeartbeats 4000000 in
theorem devChange_c (A : Option Addr) (cap n : Nat) (l : List BodD) (hn : l.length = n) (r : Int) (F : Nat) (caps : Array Value) (q : BodD) (ok : Bool) (w : World) (hh : Holds w A (bodS.cs l)) (hn6 : n ≤ 5864062014805) (hcf : Enters F)
    (hF : ∀ W, Below w.heap.size w W → Calls Try.prog F (#[BV (bodAt l r)] ++ caps) W fun e w' => e = .returned (.tuple #[BV q, .bool ok]) ∧ Below W.heap.size W w') :
    Calls Try.prog 35 #[.slice A n cap, .int .i64 r, .func (.func F) #[] caps] w
      fun e w' => ∃ v, e = .returned (.tuple #[v, .int .i64 (chE l r ok)]) ∧ bodS.Own w' w.heap.size v (chL l r q ok) ∧ Below w.heap.size w w' := by
  subst hn
  have HB0 := Lib.hid (Below.refl w.heap.size w)
  by_cases hr : 0 ≤ r ∧ r < (l.length : Int)
  · obtain ⟨E, hE⟩ : ∃ E, chE l r ok = E := ⟨_, rfl⟩
    obtain ⟨L, hL⟩ : ∃ L, chL l r q ok = L := ⟨_, rfl⟩
    rw [hE, hL]
    unfold chE at hE
    unfold chL at hL
    rw [if_pos hr] at hE hL
    obtain ⟨r0, rn⟩ := hr
    obtain ⟨i, rfl⟩ := Int.eq_ofNat_of_zero_le r0
    have hi : i < l.length := by omega
    rw [Int.toNat_natCast] at hL
    obtain ⟨b, o, rfl, _, a1⟩ := StK.holds_at hh hi
    rw [← bodAt_nat hi] at a1
    obtain ⟨x0, x1, x2, x3⟩ := bod_cells a1
    have HF := Lib.hid hF
    have HH := Lib.hid hh
    have HE := Lib.hid hE
    have HL := Lib.hid hL
    clear hF hE hL a1
    generalize bodAt l i = f at *
    obtain ⟨cel, dst, srv, flt⟩ := f
    obtain ⟨qc, qd, qs, qf⟩ := q
    rw [show bodS.k = 4 from rfl] at x0 x1 x2 x3
    dsimp only at x0 x1 x2 x3
    clear hh
    go_enter Try.func35, Try.ntmps35
    go_wp2_with fail
    rw [hcf]
    refine Calls.mono (HF.out _ (Below.refl _ _)) ?_
    rintro e w2 ⟨rfl, hb2⟩
    have HB2 : Hid (Below w.heap.size w (w2.alloc (.cells #[.int .i64 qc, .int .i64 qd, .bool qs, .bool qf] 40))) := Lib.hid (hb2.alloc hb2.size _)
    have HX2 : Hid (BodAt (w2.alloc (.cells #[.int .i64 qc, .int .i64 qd, .bool qs, .bool qf] 40)) w2.heap.size ⟨qc, qd, qs, qf⟩) := Lib.hid (heap_alloc_new w2 _)
    clear hb2 hcf HF x0 x1 x2 x3
    rcases ok with _ | _
    · obtain rfl : 24 = E := HE.out
      obtain rfl : [] = L := HL.out
      clear HE HL
      go_wp2
      go_ret2
      exact ⟨_, rfl, StK.Own.nil _ _ _, HB2.out⟩
    · obtain rfl : 0 = E := HE.out
      obtain rfl : l.set i ⟨qc, qd, qs, qf⟩ = L := HL.out
      clear HE HL
      go_wp2_with fail
      generalize w2.alloc (.cells #[.int .i64 qc, .int .i64 qd, .bool qs, .bool qf] 40) = w3 at *
      generalize w2.heap.size = Y at *
      refine (cloneB_c (some ⟨b, o, none⟩) cap l w3 (HH.out.keep HB2.out) hn6).mono ?_
      rintro e w4 ⟨u, rfl, hO4, hb4⟩
      have hO := hO4.base HB2.out.size
      obtain ⟨g, c2, rfl, hbg, hgw⟩ := hO.blk (by omega)
      have HB4 := Lib.hid (HB2.out.trans (hb4.mono HB2.out.size))
      have HX4 : Hid (BodAt w4 Y ⟨qc, qd, qs, qf⟩) := Lib.hid (HX2.out.keep hb4)
      obtain ⟨y0, y1, y2, y3⟩ := HX4.out.cell
      obtain ⟨ha, hf⟩ := hO.get rfl hi
      obtain ⟨v0, v1, v2, v3⟩ := bod_cells ha
      have f0 : w4.frozen? ⟨g, i * 4, none⟩ = false := hf 0 (by decide)
      have f1 : w4.frozen? ⟨g, i * 4 + 1, none⟩ = false := hf 1 (by decide)
      have f2 : w4.frozen? ⟨g, i * 4 + 2, none⟩ = false := hf 2 (by decide)
      have f3 : w4.frozen? ⟨g, i * 4 + 3, none⟩ = false := hf 3 (by decide)
      rw [show bodS.k = 4 from rfl] at v0 v1 v2 v3
      have HS6 := Lib.hid (hO.set hi ⟨qc, qd, qs, qf⟩)
      have HP6 := Lib.hid (StK.puts_below hbg (bodS.f ⟨qc, qd, qs, qf⟩) w4 (i * bodS.k) HB4.out)
      generalize l[i] = li at *
      obtain ⟨ic, id, is, iff⟩ := li
      dsimp only at v0 v1 v2 v3
      clear ha hf hO hO4 hb4 HX2 HB2 HH
      go_wp2
      go_ret2
      exact ⟨_, rfl, HS6.out, HP6.out⟩
  · have hE : chE l r ok = 19 := if_neg hr
    have hL : chL l r q ok = [] := if_neg hr
    rw [hE, hL]
    clear hE hL hF hh
    by_cases h0 : r < 0
    · go_enter Try.func35, Try.ntmps35
      go_wp2
      go_ret2
      exact ⟨_, rfl, StK.Own.nil _ _ _, HB0.out⟩
    · have h1 : (l.length : Int) ≤ r := by omega
      go_enter Try.func35, Try.ntmps35
      go_wp2
      go_ret2
      exact ⟨_, rfl, StK.Own.nil _ _ _, HB0.out⟩
end Go.Proofs.Ytjbhmeeebacnpaa
