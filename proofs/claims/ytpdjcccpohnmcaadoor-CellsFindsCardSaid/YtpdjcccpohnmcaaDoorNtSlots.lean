/- Contract of the reference's Slots of layer 10. -/
import Derived.Test.YtpdjcccpohnmcaaDoorNtCells
namespace Go.Proofs.YtpdjcccpohnmcaaDoor
open Go Go.RowKit Fl

/-- The slots of the open depots among the first k spurs. -/
def openSum (s : List Bool) (l : List SpurD) (k : Nat) : Int := ((l.take k).map (fun x => if x.depot && openS s x then x.slots else 0)).sum
theorem openSum_succ {s : List Bool} {l : List SpurD} {k : Nat} (h : k < l.length) : openSum s l (k + 1) = openSum s l k + if l[k].depot && openS s l[k] then l[k].slots else 0 := by
  unfold openSum
  rw [List.take_succ_eq_append_getElem h, List.map_append, List.sum_append]
  simp only [List.map_cons, List.map_nil, List.sum_cons, List.sum_nil, Int.add_zero]
/-- A spur's cells are among n ones. -/
structure SpurIn (n : Nat) (x : SpurD) : Prop where
  inn : 0 ≤ x.inn ∧ x.inn < n
  out : 0 ≤ x.out ∧ x.out < n
  base : 0 ≤ x.base ∧ 0 ≤ x.slots ∧ x.base + x.slots ≤ n
  four : x.slots ≤ 4
set_option maxRecDepth 100000 in
set_option maxHeartbeats 4000000 in
theorem slots_c (Ab An As Ar B : Option Addr) (cb cn cs cr d : Nat) (N : NetD) (s : List Bool) (w : World) (hN : NetAt w Ab An As Ar N) (hs : Holds w B (s.map Bo)) (h6 : N.spurs.length ≤ 6) (hsl : s.length ≤ 1000) (hin : ∀ x ∈ N.spurs, SpurIn s.length x) :
    Calls Tryd.prog 61 #[.agg #[.slice Ab N.blocks.length cb, .slice An N.next.length cn, .slice As N.spurs.length cs, .slice Ar N.robots.length cr, Iv N.queue, Iv N.aging, Iv N.detours, Iv N.patience], .slice B s.length d] w fun e w' => e = .returned (.int .i64 (openSum s N.spurs N.spurs.length)) ∧ Below w.heap.size w w' := by
  have HN := Lib.hid hN
  have HS := Lib.hid hs
  have HIn := Lib.hid hin
  have HC := Lib.hid (fun W k (hW : Below w.heap.size w W) (hk : k < N.spurs.length) => open_c Ab An As Ar B cb cn cs cr d N s k W (hN.keep hW) (hs.keep hW) hk hsl (hin _ (List.getElem_mem hk)).inn (hin _ (List.getElem_mem hk)).out (hin _ (List.getElem_mem hk)).base)
  have hB0 : Below w.heap.size w (w.alloc (.cells (netCells Ab An As Ar cb cn cs cr N) 29)) := (Below.refl _ _).alloc (Nat.le_refl _) _
  have HX := Lib.hid (boxAt_of (heap_alloc_new w (.cells (netCells Ab An As Ar cb cn cs cr N) 29)))
  have hsz0 : w.heap.size < (w.alloc (.cells (netCells Ab An As Ar cb cn cs cr N) 29)).heap.size := by simp
  have HR : Hid (∃ r, r = openSum s N.spurs N.spurs.length) := Lib.hid ⟨_, rfl⟩
  clear hN hs hin
  go_enter Tryd.func61, Tryd.ntmps61
  go_wp2
  generalize w.alloc (.cells (netCells Ab An As Ar cb cn cs cr N) 29) = w0 at *
  go_loopw [5, 6] (fun c i wr => ∃ (k : Nat) (z : Int), i = .int .i64 k ∧ k ≤ N.spurs.length ∧ c = .int .i64 z ∧ Hid (z = openSum s N.spurs k) ∧ 0 ≤ z ∧ z ≤ 4 * k ∧ Below w0.heap.size w0 wr) (fun _ i _ => N.spurs.length - (intOf i).toNat)
  case atStart => exact ⟨0, 0, rfl, Nat.zero_le _, rfl, Lib.hid (by simp [openSum]), by omega, by omega, Below.refl _ _⟩
  case round =>
    obtain ⟨k, z, rfl, hk, rfl, HZ, hz0, hz1, hb⟩ := hrel
    have hbw : Below w.heap.size w wr := hB0.trans (hb.mono (Nat.le_of_lt hsz0))
    obtain ⟨x0, x1, x2, x3, x4, x5, x6, x7⟩ := HX.out.keep hsz0 hb
    by_cases hlt : k < N.spurs.length
    · have HCk := Lib.hid (HC.out wr k hbw hlt)
      have HZ2 := Lib.hid (openSum_succ (s := s) hlt)
      have hsl4 := HIn.out _ (List.getElem_mem hlt)
      obtain ⟨b, o, rfl, hbw2, hs⟩ := HN.out.spurs.spur hlt
      have hs1 := hs.keep hbw2 hbw
      have c1 := hs1.c1
      have c4 := hs1.c4
      have HK : Hid (∀ W, Below wr.heap.size wr W → W.cell? ⟨b, o + k * 6 + 4, none⟩ = some (Iv N.spurs[k].slots)) := Lib.hid (fun W hW => (hW.cell (p := ⟨b, o + k * 6 + 4, none⟩) (by have := hbw.size; show b < _; omega)).trans c4)
      clear hs hs1
      obtain ⟨s1, s2⟩ : 0 ≤ N.spurs[k].slots ∧ N.spurs[k].slots ≤ 4 := ⟨hsl4.base.2.1, hsl4.four⟩
      clear hsl4
      generalize hop : openS s N.spurs[k] = op at *
      generalize N.spurs[k] = x at *
      obtain ⟨nm, dp, i, ot, sl, bs⟩ := x
      simp only at c1 c4 HZ2 HK s1 s2
      have hX2 := x2
      clear hop
      rcases dp with _ | _
      · have HZ3 : Hid (z = openSum s N.spurs (k + 1)) := Lib.hid (by rw [HZ2.out, HZ.out]; simp)
        clear HZ2 HZ HCk
        go_wp2
        go_roundw
        case rel => exact ⟨k + 1, z, by go_num, by omega, rfl, HZ3, by omega, by omega, hb⟩
        case measure => simp [intOf]; omega
      · go_wp2_with fail
        refine HCk.out.mono ?_
        rintro e w3 ⟨rfl, hb3⟩
        have hb13 : Below w0.heap.size w0 w3 := hb.trans (hb3.mono hb.size)
        have x2' := (HX.out.keep hsz0 hb13).c2
        have c4' := HK.out w3 hb3
        clear hb3 HK x0 x1 x2 x3 x4 x5 x6 x7 c1 c4 hX2
        rcases op with _ | _
        · have HZ3 : Hid (z = openSum s N.spurs (k + 1)) := Lib.hid (by rw [HZ2.out, HZ.out]; simp)
          clear HZ2 HZ HCk
          go_wp2
          go_roundw
          case rel => exact ⟨k + 1, z, by go_num, by omega, rfl, HZ3, by omega, by omega, hb13⟩
          case measure => simp [intOf]; omega
        · have HZ3 : Hid (z + sl = openSum s N.spurs (k + 1)) := Lib.hid (by rw [HZ2.out, HZ.out]; simp)
          clear HZ2 HZ HCk
          go_wp2
          go_roundw
          case rel => exact ⟨k + 1, z + sl, by go_num, by omega, rfl, HZ3, by omega, by omega, hb13⟩
          case measure => simp [intOf]; omega
    · obtain rfl : k = N.spurs.length := by omega
      go_wp2
      go_ret
      exact ⟨gr_int HZ.out, hbw⟩
end Go.Proofs.YtpdjcccpohnmcaaDoor
