/- Contract of the reference's names of layer 3, on valid networks. -/
import Derived.Test.YtpdjcccpohnmcaaDoorNtParts
namespace Go.Proofs.YtpdjcccpohnmcaaDoor
open Go Go.RowKit Fl
attribute [local go_sem] bget

theorem Tryd.infoStrG : (Tryd.prog.info? 9).map (fun i => (i.zero, i.size, i.bytes)) = some (some (.string ByteArray.empty), 1, 16) := by kernel_rfl
section
variable {ops : Array Oper} {rest : List Oper} {o : Oper} {a : Act} {Q : Exit → Act → World → Prop}
theorem app_str (w : World) (hgd : o.guard = none) (s x : Operand) (ho : o.op = .call { callee := .builtin .append, args := #[s, x], argTypes := #[97, 97] }) (base : Nat) (v : Value) (n : Nat) (xs : List Value) (hs : a.eval s = v) (hown : w.ownsRow base 9 1 v n xs)
    (B : Nat) (z : List UInt8) (hx : a.eval x = .slice (some ⟨B, 0, none⟩) 1 1) (hc : w.cell? ⟨B, 0, none⟩ = some (Sv z)) (hn : n ≤ 1000000000) (hbase : base ≤ w.heap.size)
    (h : ∀ v' w', w'.ownsRow base 9 1 v' (n + 1) (xs ++ [Sv z]) → w.grownBy w' v.ownBlock → wpList Tryd.prog ops Q rest (a.put o.dst v') w') : wpList Tryd.prog ops Q (o :: rest) a w :=
  app_any w hgd s x 97 9 (.string ByteArray.empty) 16 Tryd.underlying97 Tryd.infoStrG rfl (by decide) ho base v n xs hs hown B (Sv z) hx hc rfl hn hbase h
end
theorem Holds.sv {w : World} {A : Option Addr} {zs : List (List UInt8)} (h : Holds w A (zs.map Sv)) {k : Nat} (hk : k < zs.length) : ∃ b o, A = some ⟨b, o, none⟩ ∧ w.cell? ⟨b, o + k, none⟩ = some (Sv zs[k]) := by
  obtain ⟨b, o, hA, _, hc⟩ := h.at_ (by simp; omega)
  exact ⟨b, o, hA, by rw [hc k (by simpa using hk)]; simp⟩
theorem name_short {s : List UInt8} (h : name s = true) : s.length ≤ 12 := by
  unfold name at h
  simp at h
  omega
def bNames (N : NetD) (k : Nat) : List (List UInt8) := (N.blocks.take k).map (·.name)
def sNames (N : NetD) (k : Nat) : List (List UInt8) := N.blocks.map (·.name) ++ (N.spurs.take k).map (·.name)
theorem bNames_succ {N : NetD} {k : Nat} (h : k < N.blocks.length) : bNames N (k + 1) = bNames N k ++ [N.blocks[k].name] := by
  unfold bNames
  rw [List.take_succ_eq_append_getElem h, List.map_append]; rfl
theorem sNames_succ {N : NetD} {k : Nat} (h : k < N.spurs.length) : sNames N (k + 1) = sNames N k ++ [N.spurs[k].name] := by
  unfold sNames
  rw [List.take_succ_eq_append_getElem h, List.map_append, List.append_assoc]; rfl
theorem sNames_zero (N : NetD) : sNames N 0 = bNames N N.blocks.length := by unfold sNames bNames; simp
theorem sNames_all (N : NetD) : sNames N N.spurs.length = namesN N := by unfold sNames namesN; simp
set_option maxRecDepth 100000 in
set_option maxHeartbeats 4000000 in
theorem names_c (Ab An As Ar : Option Addr) (cb cn cs cr : Nat) (N : NetD) (w : World) (hN : NetAt w Ab An As Ar N) (hok : NetOk N) :
    Calls Tryd.prog 52 #[.agg #[.slice Ab N.blocks.length cb, .slice An N.next.length cn, .slice As N.spurs.length cs, .slice Ar N.robots.length cr, Iv N.queue, Iv N.aging, Iv N.detours, Iv N.patience]] w fun e w' => e = .returned (.bool true) ∧ Below w.heap.size w w' := by
  have HN := Lib.hid hN
  have HNm := Lib.hid hok.named
  have HAp := Lib.hid hok.apart
  have h24 := hok.few
  have h6 := hok.spurs6
  have hB0 : Below w.heap.size w (w.alloc (.cells (netCells Ab An As Ar cb cn cs cr N) 29)) := (Below.refl _ _).alloc (Nat.le_refl _) _
  have HX := Lib.hid (boxAt_of (heap_alloc_new w (.cells (netCells Ab An As Ar cb cn cs cr N) 29)))
  have hsz0 : (w.alloc (.cells (netCells Ab An As Ar cb cn cs cr N) 29)).heap.size = w.heap.size + 1 := by simp
  clear hN hok
  go_enter Tryd.func52, Tryd.ntmps52
  go_wp2
  generalize w.alloc (.cells (netCells Ab An As Ar cb cn cs cr N) 29) = w0 at *
  have HB0 := Lib.hid hB0
  have hsz1 : w.heap.size < w0.heap.size := by omega
  clear hB0 hsz0
  go_loopw [3, 4] (fun v i wr => ∃ (k : Nat), i = .int .i64 k ∧ k ≤ N.blocks.length ∧ Hid (wr.ownsRow w0.heap.size 9 1 v k ((bNames N k).map Sv)) ∧ Below w0.heap.size w0 wr) (fun _ i _ => N.blocks.length - (intOf i).toNat)
  case atStart => exact ⟨0, rfl, Nat.zero_le _, Lib.hid (World.ownsRow_nil _ _ _ _), Below.refl _ _⟩
  case round =>
    obtain ⟨k, rfl, hk, HO, hb⟩ := hrel
    have hbw : Below w.heap.size w wr := HB0.out.trans (hb.mono (Nat.le_of_lt hsz1))
    obtain ⟨x0, _, x2, _⟩ := HX.out.keep hsz1 hb
    have hsz := hb.size
    by_cases hlt : k < N.blocks.length
    · obtain ⟨bb, ob, rfl, hbb, hs⟩ := HN.out.blocks.block hlt
      obtain ⟨c0, _, _⟩ := hs.keep hbb hbw
      have HT : Hid ((bNames N (k + 1)).map Sv = (bNames N k).map Sv ++ [Sv N.blocks[k].name]) := Lib.hid (by rw [bNames_succ hlt, List.map_append]; rfl)
      have base := own_base HO.out
      clear hs hbw
      generalize N.blocks[k].name = nm at *
      go_wp2_with (at_builtin; refine app_str _ rfl _ _ rfl w0.heap.size _ _ _ rfl (HO.out.alloc _) wr.heap.size nm rfl (by simp [go_sem]) (by omega) (by simp; omega) ?_)
      intro v8 w8 own8 hg8
      have hb8 : Below w0.heap.size w0 w8 := (hb.alloc hb.size _).grown hg8 (by simp; omega) (fun k hk => base k hk)
      have HO8 : Hid (w8.ownsRow w0.heap.size 9 1 v8 (k + 1) ((bNames N (k + 1)).map Sv)) := Lib.hid (by rw [HT.out]; exact own8)
      clear own8 hg8 base HO
      go_wp2
      go_roundw
      case rel => exact ⟨k + 1, by go_num, by omega, HO8, hb8⟩
      case measure => simp [intOf]; omega
    · obtain rfl : k = N.blocks.length := by omega
      have HO2 : Hid (wr.ownsRow w0.heap.size 9 1 u3 (N.blocks.length + 0) ((sNames N 0).map Sv)) := Lib.hid (by rw [sNames_zero]; exact HO.out)
      clear HO hbw
      go_wp2
      clear x0 x2 hsz
      go_loopw [3, 5] (fun v i wr => ∃ (k : Nat), i = .int .i64 k ∧ k ≤ N.spurs.length ∧ Hid (wr.ownsRow w0.heap.size 9 1 v (N.blocks.length + k) ((sNames N k).map Sv)) ∧ Below w0.heap.size w0 wr) (fun _ i _ => N.spurs.length - (intOf i).toNat)
      case atStart => exact ⟨0, rfl, Nat.zero_le _, HO2, hb⟩
      case round =>
        clear HO2 hb
        obtain ⟨k, rfl, hk, HO, hb⟩ := hrel
        have hbw : Below w.heap.size w wr := HB0.out.trans (hb.mono (Nat.le_of_lt hsz1))
        obtain ⟨x0, _, x2, _⟩ := HX.out.keep hsz1 hb
        have hsz := hb.size
        by_cases hlt : k < N.spurs.length
        · obtain ⟨bb, ob, rfl, hbb, hs⟩ := HN.out.spurs.spur hlt
          have c0 := (hs.keep hbb hbw).c0
          have HT : Hid ((sNames N (k + 1)).map Sv = (sNames N k).map Sv ++ [Sv N.spurs[k].name]) := Lib.hid (by rw [sNames_succ hlt, List.map_append]; rfl)
          have base := own_base HO.out
          clear hs hbw
          generalize N.spurs[k].name = nm at *
          go_wp2_with (at_builtin; refine app_str _ rfl _ _ rfl w0.heap.size _ _ _ rfl (HO.out.alloc _) wr.heap.size nm rfl (by simp [go_sem]) (by omega) (by simp; omega) ?_)
          intro v8 w8 own8 hg8
          have hb8 : Below w0.heap.size w0 w8 := (hb.alloc hb.size _).grown hg8 (by simp; omega) (fun k hk => base k hk)
          have HO8 : Hid (w8.ownsRow w0.heap.size 9 1 v8 (N.blocks.length + (k + 1)) ((sNames N (k + 1)).map Sv)) := Lib.hid (by rw [HT.out]; exact own8)
          clear own8 hg8 base HO
          go_wp2
          go_roundw
          case rel => exact ⟨k + 1, by go_num, by omega, HO8, hb8⟩
          case measure => simp [intOf]; omega
        · obtain rfl : k = N.spurs.length := by omega
          have HO2 : Hid (wr.ownsRow w0.heap.size 9 1 u3 (namesN N).length ((namesN N).map Sv)) := Lib.hid (by
            have h := HO.out
            rw [sNames_all] at h
            have e : (namesN N).length = N.blocks.length + N.spurs.length := by simp [namesN]
            rw [e]; exact h)
          have hL30 : (namesN N).length ≤ 30 := by simp [namesN]; omega
          have HBw := Lib.hid hbw
          clear HO hbw hsz
          obtain ⟨AL, cL, rfl, hL⟩ := own_is HO2.out
          have HL := Lib.hid hL
          generalize namesN N = L at *
          clear HO2 hL
          go_wp2
          clear x0 x2 hb
          go_loopw [6] (fun i wz => ∃ (k n : Nat), i = .int .i64 k ∧ k ≤ L.length ∧ wz = wr.drewN n) (fun i _ => L.length - (intOf i).toNat)
          case atStart => exact ⟨0, 0, rfl, Nat.zero_le _, rfl⟩
          case round =>
            obtain ⟨k, n, rfl, hk, rfl⟩ := hrel
            by_cases hlt : k < L.length
            · obtain ⟨bl, ol, rfl, ek⟩ := HL.out.sv hlt
              have hnk := HNm.out _ (List.getElem_mem hlt)
              have HC := Lib.hid (fun W => refName_c L[k] W (by have := name_short hnk; unfold maxLen; omega))
              rw [hnk] at HC
              have HNe : Hid (∀ j (hj : j < k), L[k] ≠ L[j]'(by omega)) := Lib.hid (fun j hj e => by
                have h1 := List.pairwise_iff_getElem.1 HAp.out j k (by omega) hlt hj
                exact h1 e.symm)
              clear hnk
              generalize L[k] = nm at *
              go_wp2_with fail
              refine (HC.out _).mono ?_
              rintro e w9 ⟨rfl, rfl⟩
              go_wp2
              go_loopw [7] (fun i wz => ∃ (j n : Nat), i = .int .i64 j ∧ j ≤ k ∧ wz = wr.drewN n) (fun i _ => k - (intOf i).toNat)
              case atStart => exact ⟨0, n, rfl, Nat.zero_le _, rfl⟩
              case round =>
                obtain ⟨j, n2, rfl, hj, rfl⟩ := hrel
                by_cases hjt : j < k
                · have hjl : j < L.length := by omega
                  obtain ⟨bl2, ol2, hBeq, ej⟩ := HL.out.sv hjl
                  injection hBeq with hBeq
                  injection hBeq with hB1 hB2
                  subst hB1 hB2
                  have hne : (nm == L[j]) = false := by simpa using HNe.out j hjt
                  generalize L[j] = nj at *
                  go_wp2
                  go_quiet (fail)
                  go_wp2
                  go_roundw
                  case rel => exact ⟨j + 1, _, by go_num, by omega, rfl⟩
                  case measure => simp [intOf]; omega
                · go_wp2
                  go_roundw
                  case rel => exact ⟨k + 1, n2, by go_num, by omega, rfl⟩
                  case measure => simp [intOf]; omega
            · go_wp2
              go_ret
              exact ⟨rfl, below_drewN HBw.out n⟩
end Go.Proofs.YtpdjcccpohnmcaaDoor
