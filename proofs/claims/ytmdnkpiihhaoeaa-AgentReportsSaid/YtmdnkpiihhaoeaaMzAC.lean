/- Joined texts. -/
import Derived.Test.YtmdnkpiihhaoeaaMzAA
import Derived.Test.YtmdnkpiihhaoeaaChecked
import Derived.WalkKit
import Derived.ProofKit
import Derived.BigQuiet
import Derived.Lib.Hide
import Derived.Deep.QuietTactic
import Derived.Test.YtmdnkpiihhaoeaaMzAB
namespace Go.Proofs.Ytmdnkpiihhaoeaa
open Go.RowKit Fl

/-- A byte of a string that is written as a list. -/
theorem bget (l : List UInt8) (k : Nat) (h : k < ByteArray.size ⟨l.toArray⟩) : (⟨l.toArray⟩ : ByteArray)[k]'h = l[k]'(by rwa [show ByteArray.size ⟨l.toArray⟩ = l.length from rfl] at h) := rfl
theorem ret_bool {a b : Bool} (h : a = b) : Ending.returned (.bool a) = .returned (.bool b) := by rw [h]
theorem ret_int {k : IntKind} {a b : Int} (h : a = b) : Ending.returned (.int k a) = .returned (.int k b) := by rw [h]

theorem fields_isDigit_c (c : UInt8) (w : World) : Calls Try.prog 97 #[.int .u8 c.toNat] w fun e w' => e = .returned (.bool (digitB c)) ∧ w = w' := by
  go_enter Try.func97, Try.ntmps97
  go_wp2
  all_goals go_ret
  all_goals exact ⟨ret_bool (by rw [Bool.eq_iff_iff]; simp [digitB]; omega), rfl⟩
theorem fields_isLetter_c (c : UInt8) (w : World) : Calls Try.prog 96 #[.int .u8 c.toNat] w fun e w' => e = .returned (.bool (letterB c)) ∧ w = w' := by
  go_enter Try.func96, Try.ntmps96
  go_wp2
  all_goals go_ret
  all_goals exact ⟨ret_bool (by rw [Bool.eq_iff_iff]; simp [letterB]; omega), rfl⟩
theorem blockwayref01_letter_c (c : UInt8) (w : World) : Calls Try.prog 94 #[.int .u8 c.toNat] w fun e w' => e = .returned (.bool (letterB c)) ∧ w = w' := by
  go_enter Try.func94, Try.ntmps94
  go_wp2
  all_goals go_ret
  all_goals exact ⟨ret_bool (by rw [Bool.eq_iff_iff]; simp [letterB]; omega), rfl⟩
end Go.Proofs.Ytmdnkpiihhaoeaa
namespace Go.Proofs.Ytmdnkpiihhaoeaa
open Go.RowKit Fl
attribute [local go_sem] bget

theorem all_snoc {l : List UInt8} {k : Nat} (h : k < l.length) {p : UInt8 → Bool} (h1 : (l.take k).all p = true) (h2 : p l[k] = true) : (l.take (k + 1)).all p = true := by
  rw [List.take_succ_eq_append_getElem h, List.all_append, h1]
  simp [h2]

set_option maxHeartbeats 1000000 in
theorem refName_c (l : List UInt8) (w : World) (hs : l.length ≤ maxLen) : Calls Try.prog 85 #[.string ⟨l.toArray⟩] w fun e w' => e = .returned (.bool (name l)) ∧ w = w' := by
  unfold maxLen at hs
  by_cases h1 : 1 ≤ l.length
  · have e1 : l ≠ [] := by intro e; subst e; simp at h1
    have e2 : l.isEmpty = false := by simpa using e1
    by_cases h2 : l.length ≤ 12
    · by_cases h3 : letterB l[0] = true
      · go_enter Try.func85, Try.ntmps85
        go_wp2_with (go_at_call 94; refine (blockwayref01_letter_c _ _).mono ?_; rintro e w' ⟨rfl, rfl⟩)
        go_loop [3] (fun i => ∃ k : Nat, k ≤ l.length ∧ i = .int .i64 k ∧ (l.take k).all nameByte = true) (fun i => l.length - (intOf i).toNat)
        case atStart => exact ⟨0, Nat.zero_le _, rfl, by simp⟩
        case round =>
          obtain ⟨k, hk, rfl, ha⟩ := hrel
          by_cases hlt : k < l.length
          · have HA := Lib.hid ha
            clear ha
            go_wp2_with (go_at_call 94; refine (blockwayref01_letter_c _ _).mono ?_; rintro e w' ⟨rfl, rfl⟩)
            all_goals first
              | (go_round
                 case rel => exact ⟨k + 1, by omega, by go_num, all_snoc hlt HA.out (by first | exact nameByte_letter ‹_› | exact nameByte_other (by (try simp only [bne_eq_false_iff_eq] at *); omega))⟩
                 case measure => simp [intOf]; omega)
              | (go_ret
                 exact ⟨ret_bool (name_bad hlt (nameByte_none (by simp_all) (by simp_all; omega))).symm, rfl⟩)
          · obtain rfl : k = l.length := by omega
            have hn := Lib.hid (name_good h1 h2 (by rw [head_of h1]; exact h3) (by simpa using ha))
            clear ha
            go_wp2
            go_ret
            exact ⟨ret_bool hn.out.symm, rfl⟩
      · have h4 : letterB l[0] = false := by simpa using h3
        clear h3
        go_enter Try.func85, Try.ntmps85
        go_wp2_with (go_at_call 94; refine (blockwayref01_letter_c _ _).mono ?_; rintro e w' ⟨rfl, rfl⟩)
        go_ret
        exact ⟨ret_bool (name_first h1 h4).symm, rfl⟩
    · go_enter Try.func85, Try.ntmps85
      go_wp2_with (go_at_call 94; refine (blockwayref01_letter_c _ _).mono ?_; rintro e w' ⟨rfl, rfl⟩)
      go_ret
      exact ⟨ret_bool (name_long h2).symm, rfl⟩
  · obtain rfl : l = [] := List.eq_nil_of_length_eq_zero (by omega)
    go_enter Try.func85, Try.ntmps85
    go_wp2_with (go_at_call 94; refine (blockwayref01_letter_c _ _).mono ?_; rintro e w' ⟨rfl, rfl⟩)
    go_ret
    exact ⟨ret_bool rfl, rfl⟩
set_option maxHeartbeats 1000000 in
theorem Name_c (l : List UInt8) (w : World) (hs : l.length ≤ maxLen) : Calls Try.prog 90 #[.string ⟨l.toArray⟩] w fun e w' => e = .returned (.bool (name l)) ∧ w = w' := by
  unfold maxLen at hs
  by_cases h1 : 1 ≤ l.length
  · have e1 : l ≠ [] := by intro e; subst e; simp at h1
    have e2 : l.isEmpty = false := by simpa using e1
    by_cases h2 : l.length ≤ 12
    · by_cases h3 : letterB l[0] = true
      · go_enter Try.func90, Try.ntmps90
        go_wp2_with (first | (go_at_call 96; refine (fields_isLetter_c _ _).mono ?_; rintro e w' ⟨rfl, rfl⟩) | (go_at_call 97; refine (fields_isDigit_c _ _).mono ?_; rintro e w' ⟨rfl, rfl⟩))
        go_loop [20] (fun i => ∃ k : Nat, k ≤ l.length ∧ i = .int .i64 k ∧ (l.take k).all nameByte = true) (fun i => l.length - (intOf i).toNat)
        case atStart => exact ⟨0, Nat.zero_le _, rfl, by simp⟩
        case round =>
          obtain ⟨k, hk, rfl, ha⟩ := hrel
          by_cases hlt : k < l.length
          · have HA := Lib.hid ha
            clear ha
            go_wp2_with (first | (go_at_call 96; refine (fields_isLetter_c _ _).mono ?_; rintro e w' ⟨rfl, rfl⟩) | (go_at_call 97; refine (fields_isDigit_c _ _).mono ?_; rintro e w' ⟨rfl, rfl⟩))
            all_goals first
              | (go_round
                 case rel => exact ⟨k + 1, by omega, by go_num, all_snoc hlt HA.out (by first | exact nameByte_letter ‹_› | exact nameByte_other (by (try simp only [bne_eq_false_iff_eq, digitB, decide_eq_true_eq] at *); omega))⟩
                 case measure => simp [intOf]; omega)
              | (go_ret
                 exact ⟨ret_bool (name_bad hlt (nameByte_none (by simp_all) (by simp_all [digitB]; omega))).symm, rfl⟩)
          · obtain rfl : k = l.length := by omega
            have hn := Lib.hid (name_good h1 h2 (by rw [head_of h1]; exact h3) (by simpa using ha))
            clear ha
            go_wp2
            go_ret
            exact ⟨ret_bool hn.out.symm, rfl⟩
      · have h4 : letterB l[0] = false := by simpa using h3
        clear h3
        go_enter Try.func90, Try.ntmps90
        go_wp2_with (first | (go_at_call 96; refine (fields_isLetter_c _ _).mono ?_; rintro e w' ⟨rfl, rfl⟩) | (go_at_call 97; refine (fields_isDigit_c _ _).mono ?_; rintro e w' ⟨rfl, rfl⟩))
        go_ret
        exact ⟨ret_bool (name_first h1 h4).symm, rfl⟩
    · go_enter Try.func90, Try.ntmps90
      go_wp2_with (first | (go_at_call 96; refine (fields_isLetter_c _ _).mono ?_; rintro e w' ⟨rfl, rfl⟩) | (go_at_call 97; refine (fields_isDigit_c _ _).mono ?_; rintro e w' ⟨rfl, rfl⟩))
      go_ret
      exact ⟨ret_bool (name_long h2).symm, rfl⟩
  · obtain rfl : l = [] := List.eq_nil_of_length_eq_zero (by omega)
    go_enter Try.func90, Try.ntmps90
    go_wp2_with (first | (go_at_call 96; refine (fields_isLetter_c _ _).mono ?_; rintro e w' ⟨rfl, rfl⟩) | (go_at_call 97; refine (fields_isDigit_c _ _).mono ?_; rintro e w' ⟨rfl, rfl⟩))
    go_ret
    exact ⟨ret_bool rfl, rfl⟩
end Go.Proofs.Ytmdnkpiihhaoeaa
namespace Go.Proofs.Ytmdnkpiihhaoeaa
open Go Go.RowKit Fl

theorem configured_c (q a d p : Int) (w : World) (h : ConfOk q a d p) :
    Calls Try.prog 76 #[.agg #[Iv q, Iv a, Iv d, Iv p]] w fun e w' => e = .returned (.bool true) ∧ Below w.heap.size w w' := by
  obtain ⟨⟨h1, h2⟩, ⟨h3, h4⟩, ⟨h5, h6⟩, ⟨h7, h8⟩⟩ := h
  go_enter Try.func76, Try.ntmps76
  go_wp2
  go_ret
  exact ⟨rfl, (Below.refl _ _).alloc (Nat.le_refl _) _⟩
set_option maxRecDepth 100000 in
set_option maxHeartbeats 4000000 in
theorem blocks_c (Ab An As Ar : Option Addr) (cb cn cs cr : Nat) (N : NetD) (w : World) (hN : NetAt w Ab An As Ar N) (hok : NetOk N) :
    Calls Try.prog 74 #[.agg #[.slice Ab N.blocks.length cb, .slice An N.next.length cn, .slice As N.spurs.length cs, .slice Ar N.robots.length cr, Iv N.queue, Iv N.aging, Iv N.detours, Iv N.patience]] w fun e w' => e = .returned (.bool true) ∧ Below w.heap.size w w' := by
  have HN := Lib.hid hN
  have HO := Lib.hid hok
  have hB0 : Below w.heap.size w (w.alloc (.cells (netCells Ab An As Ar cb cn cs cr N) 29)) := (Below.refl _ _).alloc (Nat.le_refl _) _
  have HX := Lib.hid (boxAt_of (heap_alloc_new w (.cells (netCells Ab An As Ar cb cn cs cr N) 29)))
  have hsz0 : w.heap.size < (w.alloc (.cells (netCells Ab An As Ar cb cn cs cr N) 29)).heap.size := by simp
  have h1 := hok.some
  have h2 := hok.few
  have h3 := hok.lanes
  have hne : ((N.next.length : Int) != (N.blocks.length : Int)) = false := by rw [h3]; simp
  have HL := Lib.hid h3
  obtain ⟨y0, y1, y2, y3, y4, y5, y6, y7⟩ := boxAt_of (heap_alloc_new w (.cells (netCells Ab An As Ar cb cn cs cr N) 29))
  clear hN hok h3
  go_enter Try.func74, Try.ntmps74
  go_wp2
  generalize w.alloc (.cells (netCells Ab An As Ar cb cn cs cr N) 29) = w0 at *
  clear y0 y1 y2 y3 y4 y5 y6 y7
  go_loopw [3] (fun i wr => ∃ (k : Nat), i = .int .i64 k ∧ k ≤ N.blocks.length ∧ Below w0.heap.size w0 wr) (fun i _ => N.blocks.length - (intOf i).toNat)
  case atStart => exact ⟨0, rfl, Nat.zero_le _, Below.refl _ _⟩
  case round =>
    obtain ⟨k, rfl, hk, hb⟩ := hrel
    have hbw : Below w.heap.size w wr := hB0.trans (hb.mono (Nat.le_of_lt hsz0))
    obtain ⟨x0, x1, x2, x3, x4, x5, x6, x7⟩ := HX.out.keep hsz0 hb
    clear x2 x3 x4 x5 x6 x7
    by_cases hlt : k < N.blocks.length
    · have hltn : k < N.next.length := by have := HL.out; omega
      obtain ⟨bb, ob, rfl, hbb, hs⟩ := HN.out.blocks.block hlt
      obtain ⟨c0, c1, c2⟩ := hs.keep hbb hbw
      obtain ⟨p1, p2, p3, p4⟩ := HO.out.places _ (List.getElem_mem hlt)
      obtain ⟨bn, on, A1, cc1, rfl, e1, hr⟩ := HN.out.next.one hltn
      have hbn : bn < w.heap.size := World.block_lt_of_cell? _ _ e1
      have ho4 := HO.out.outs _ (List.getElem_mem hltn)
      have HG := Lib.hid (validG_row HO.out.graph hltn)
      have HSrt := Lib.hid (validG_sorted' HO.out.graph hltn)
      have HW := Lib.hid (fun W (hW : Below w0.heap.size w0 W) => (HX.out.keep hsz0 hW))
      have HE1 : Hid (∀ W, Below w.heap.size w W → W.cell? ⟨bn, on + k, none⟩ = some (.slice A1 N.next[k].length cc1) ∧ Holds W A1 (N.next[k].map Iv)) := Lib.hid (fun W hW => ⟨(hW.cell (p := ⟨bn, on + k, none⟩) hbn).trans e1, hr.keep hW⟩)
      have e1a : ∀ o, (wr.alloc o).cell? ⟨bn, on + k, none⟩ = some (.slice A1 N.next[k].length cc1) := fun o => (HE1.out _ (hbw.alloc hbw.size o)).1
      have x1a : ∀ o, (wr.alloc o).cell? ⟨w.heap.size, 1, none⟩ = some (.slice (some ⟨bn, on, none⟩) N.next.length cn) := fun o => (HW.out _ (hb.alloc hb.size o)).c1
      clear hs hr e1
      generalize N.next[k] = r at *
      generalize N.blocks[k] = x at *
      obtain ⟨nm, xx, yy⟩ := x
      simp only at c0 c1 c2 p1 p2 p3 p4
      go_wp2
      have hb2 := hb.alloc hb.size (.cells #[Sv nm, Iv xx, Iv yy] 87)
      have hbw2 := hbw.alloc hbw.size (.cells #[Sv nm, Iv xx, Iv yy] 87)
      clear e1a x1a c0 c1 c2 hb hbw x0 x1
      generalize wr.alloc (.cells #[Sv nm, Iv xx, Iv yy] 87) = wx at *
      go_loop [5] (fun i => ∃ (j : Nat), i = .int .i64 j ∧ j ≤ r.length) (fun i => r.length - (intOf i).toNat)
      case atStart => exact ⟨0, rfl, Nat.zero_le _⟩
      case round =>
        obtain ⟨j, rfl, hj⟩ := hrel
        obtain ⟨x0, x1, x2, x3, x4, x5, x6, x7⟩ := HW.out _ hb2
        clear x2 x3 x4 x5 x6 x7
        obtain ⟨e1, hr⟩ := HE1.out _ hbw2
        by_cases hjt : j < r.length
        · obtain ⟨br, or_, rfl, e2⟩ := hr.iv hjt
          obtain ⟨q0, q1, q2⟩ := HG.out r[j] (List.getElem_mem hjt)
          have HLn := HL.out
          have q1' : r[j] < (N.blocks.length : Int) := by omega
          have q3 : (r[j] == (k : Int)) = false := by simpa using q2
          clear HLn q1 q2
          by_cases hj0 : j = 0
          · subst hj0
            rw [Nat.add_zero] at e2
            clear hr
            generalize r[0] = x at *
            go_wp2
            go_round
            case rel => exact ⟨1, by go_num, by omega⟩
            case measure => simp [intOf]; omega
          · have hjp : j - 1 < r.length := by omega
            obtain ⟨b3, o3, hA3, e3⟩ := hr.iv hjp
            injection hA3 with h
            injection h with g1 g2
            subst g1 g2
            have hlo : r[j - 1] < r[j] := List.pairwise_iff_getElem.1 HSrt.out (j - 1) j hjp hjt (by omega)
            have hpos : 0 < j := by omega
            have hcast : (j : Int) - 1 = ((j - 1 : Nat) : Int) := by omega
            have hd4 : decide (r[j] ≤ r[j - 1]) = false := by rw [decide_eq_false_iff_not]; omega
            clear hr hlo
            generalize r[j] = x at *
            generalize r[j - 1] = y at *
            go_wp2
            go_round
            case rel => exact ⟨j + 1, by go_num, by omega⟩
            case measure => simp [intOf]; omega
        · clear hr
          go_wp2
          go_roundw
          case rel => exact ⟨k + 1, by go_num, by omega, hb2⟩
          case measure => simp [intOf]; omega
    · go_wp2
      go_ret
      exact ⟨rfl, hbw⟩
end Go.Proofs.Ytmdnkpiihhaoeaa
namespace Go.Proofs.Ytmdnkpiihhaoeaa
open Go Go.RowKit Fl
attribute [local go_sem] bget

theorem Try.infoStrG : (Try.prog.info? 9).map (fun i => (i.zero, i.size, i.bytes)) = some (some (.string ByteArray.empty), 1, 16) := by kernel_rfl
section
variable {ops : Array Oper} {rest : List Oper} {o : Oper} {a : Act} {Q : Exit → Act → World → Prop}
theorem app_str (w : World) (hgd : o.guard = none) (s x : Operand) (ho : o.op = .call { callee := .builtin .append, args := #[s, x], argTypes := #[126, 126] }) (base : Nat) (v : Value) (n : Nat) (xs : List Value) (hs : a.eval s = v) (hown : w.ownsRow base 9 1 v n xs)
    (B : Nat) (z : List UInt8) (hx : a.eval x = .slice (some ⟨B, 0, none⟩) 1 1) (hc : w.cell? ⟨B, 0, none⟩ = some (Sv z)) (hn : n ≤ 1000000000) (hbase : base ≤ w.heap.size)
    (h : ∀ v' w', w'.ownsRow base 9 1 v' (n + 1) (xs ++ [Sv z]) → w.grownBy w' v.ownBlock → wpList Try.prog ops Q rest (a.put o.dst v') w') : wpList Try.prog ops Q (o :: rest) a w :=
  app_any w hgd s x 126 9 (.string ByteArray.empty) 16 Try.underlying126 Try.infoStrG rfl (by decide) ho base v n xs hs hown B (Sv z) hx hc rfl hn hbase h
end
theorem Holds.sv {w : World} {A : Option Addr} {zs : List (List UInt8)} (h : Holds w A (zs.map Sv)) {k : Nat} (hk : k < zs.length) : ∃ b o, A = some ⟨b, o, none⟩ ∧ w.cell? ⟨b, o + k, none⟩ = some (Sv zs[k]) := by
  obtain ⟨b, o, hA, _, hc⟩ := h.at_ (by simp; omega)
  exact ⟨b, o, hA, by rw [hc k (by simpa using hk)]; simp⟩
theorem name_short {s : List UInt8} (h : name s = true) : s.length ≤ 12 := by
  unfold name at h
  simp at h
  omega
def bNames (N : NetD) (k : Nat) : List (List UInt8) := (N.blocks.take k).map (·.name)
def sNames (N : NetD) (k : Nat) : List (List UInt8) := N.blocks.map (·.name) ++ (N.spurs.take k).map (·.name)
theorem bNames_succ {N : NetD} {k : Nat} (h : k < N.blocks.length) : bNames N (k + 1) = bNames N k ++ [N.blocks[k].name] := by
  unfold bNames
  rw [List.take_succ_eq_append_getElem h, List.map_append]; rfl
theorem sNames_succ {N : NetD} {k : Nat} (h : k < N.spurs.length) : sNames N (k + 1) = sNames N k ++ [N.spurs[k].name] := by
  unfold sNames
  rw [List.take_succ_eq_append_getElem h, List.map_append, List.append_assoc]; rfl
theorem sNames_zero (N : NetD) : sNames N 0 = bNames N N.blocks.length := by unfold sNames bNames; simp
theorem sNames_all (N : NetD) : sNames N N.spurs.length = namesN N := by unfold sNames namesN; simp
set_option maxRecDepth 100000 in
set_option maxHeartbeats 4000000 in
theorem names_c (Ab An As Ar : Option Addr) (cb cn cs cr : Nat) (N : NetD) (w : World) (hN : NetAt w Ab An As Ar N) (hok : NetOk N) :
    Calls Try.prog 75 #[.agg #[.slice Ab N.blocks.length cb, .slice An N.next.length cn, .slice As N.spurs.length cs, .slice Ar N.robots.length cr, Iv N.queue, Iv N.aging, Iv N.detours, Iv N.patience]] w fun e w' => e = .returned (.bool true) ∧ Below w.heap.size w w' := by
  have HN := Lib.hid hN
  have HNm := Lib.hid hok.named
  have HAp := Lib.hid hok.apart
  have h24 := hok.few
  have h6 := hok.spurs6
  have hB0 : Below w.heap.size w (w.alloc (.cells (netCells Ab An As Ar cb cn cs cr N) 29)) := (Below.refl _ _).alloc (Nat.le_refl _) _
  have HX := Lib.hid (boxAt_of (heap_alloc_new w (.cells (netCells Ab An As Ar cb cn cs cr N) 29)))
  have hsz0 : (w.alloc (.cells (netCells Ab An As Ar cb cn cs cr N) 29)).heap.size = w.heap.size + 1 := by simp
  clear hN hok
  go_enter Try.func75, Try.ntmps75
  go_wp2
  generalize w.alloc (.cells (netCells Ab An As Ar cb cn cs cr N) 29) = w0 at *
  have HB0 := Lib.hid hB0
  have hsz1 : w.heap.size < w0.heap.size := by omega
  clear hB0 hsz0
  go_loopw [3, 4] (fun v i wr => ∃ (k : Nat), i = .int .i64 k ∧ k ≤ N.blocks.length ∧ Hid (wr.ownsRow w0.heap.size 9 1 v k ((bNames N k).map Sv)) ∧ Below w0.heap.size w0 wr) (fun _ i _ => N.blocks.length - (intOf i).toNat)
  case atStart => exact ⟨0, rfl, Nat.zero_le _, Lib.hid (World.ownsRow_nil _ _ _ _), Below.refl _ _⟩
  case round =>
    obtain ⟨k, rfl, hk, HO, hb⟩ := hrel
    have hbw : Below w.heap.size w wr := HB0.out.trans (hb.mono (Nat.le_of_lt hsz1))
    obtain ⟨x0, _, x2, _⟩ := HX.out.keep hsz1 hb
    have hsz := hb.size
    by_cases hlt : k < N.blocks.length
    · obtain ⟨bb, ob, rfl, hbb, hs⟩ := HN.out.blocks.block hlt
      obtain ⟨c0, _, _⟩ := hs.keep hbb hbw
      have HT : Hid ((bNames N (k + 1)).map Sv = (bNames N k).map Sv ++ [Sv N.blocks[k].name]) := Lib.hid (by rw [bNames_succ hlt, List.map_append]; rfl)
      have base := own_base HO.out
      clear hs hbw
      generalize N.blocks[k].name = nm at *
      go_wp2_with (at_builtin; refine app_str _ rfl _ _ rfl w0.heap.size _ _ _ rfl (HO.out.alloc _) wr.heap.size nm rfl (by simp [go_sem]) (by omega) (by simp; omega) ?_)
      intro v8 w8 own8 hg8
      have hb8 : Below w0.heap.size w0 w8 := (hb.alloc hb.size _).grown hg8 (by simp; omega) (fun k hk => base k hk)
      have HO8 : Hid (w8.ownsRow w0.heap.size 9 1 v8 (k + 1) ((bNames N (k + 1)).map Sv)) := Lib.hid (by rw [HT.out]; exact own8)
      clear own8 hg8 base HO
      go_wp2
      go_roundw
      case rel => exact ⟨k + 1, by go_num, by omega, HO8, hb8⟩
      case measure => simp [intOf]; omega
    · obtain rfl : k = N.blocks.length := by omega
      have HO2 : Hid (wr.ownsRow w0.heap.size 9 1 u3 (N.blocks.length + 0) ((sNames N 0).map Sv)) := Lib.hid (by rw [sNames_zero]; exact HO.out)
      clear HO hbw
      go_wp2
      clear x0 x2 hsz
      go_loopw [3, 5] (fun v i wr => ∃ (k : Nat), i = .int .i64 k ∧ k ≤ N.spurs.length ∧ Hid (wr.ownsRow w0.heap.size 9 1 v (N.blocks.length + k) ((sNames N k).map Sv)) ∧ Below w0.heap.size w0 wr) (fun _ i _ => N.spurs.length - (intOf i).toNat)
      case atStart => exact ⟨0, rfl, Nat.zero_le _, HO2, hb⟩
      case round =>
        clear HO2 hb
        obtain ⟨k, rfl, hk, HO, hb⟩ := hrel
        have hbw : Below w.heap.size w wr := HB0.out.trans (hb.mono (Nat.le_of_lt hsz1))
        obtain ⟨x0, _, x2, _⟩ := HX.out.keep hsz1 hb
        have hsz := hb.size
        by_cases hlt : k < N.spurs.length
        · obtain ⟨bb, ob, rfl, hbb, hs⟩ := HN.out.spurs.spur hlt
          have c0 := (hs.keep hbb hbw).c0
          have HT : Hid ((sNames N (k + 1)).map Sv = (sNames N k).map Sv ++ [Sv N.spurs[k].name]) := Lib.hid (by rw [sNames_succ hlt, List.map_append]; rfl)
          have base := own_base HO.out
          clear hs hbw
          generalize N.spurs[k].name = nm at *
          go_wp2_with (at_builtin; refine app_str _ rfl _ _ rfl w0.heap.size _ _ _ rfl (HO.out.alloc _) wr.heap.size nm rfl (by simp [go_sem]) (by omega) (by simp; omega) ?_)
          intro v8 w8 own8 hg8
          have hb8 : Below w0.heap.size w0 w8 := (hb.alloc hb.size _).grown hg8 (by simp; omega) (fun k hk => base k hk)
          have HO8 : Hid (w8.ownsRow w0.heap.size 9 1 v8 (N.blocks.length + (k + 1)) ((sNames N (k + 1)).map Sv)) := Lib.hid (by rw [HT.out]; exact own8)
          clear own8 hg8 base HO
          go_wp2
          go_roundw
          case rel => exact ⟨k + 1, by go_num, by omega, HO8, hb8⟩
          case measure => simp [intOf]; omega
        · obtain rfl : k = N.spurs.length := by omega
          have HO2 : Hid (wr.ownsRow w0.heap.size 9 1 u3 (namesN N).length ((namesN N).map Sv)) := Lib.hid (by
            have h := HO.out
            rw [sNames_all] at h
            have e : (namesN N).length = N.blocks.length + N.spurs.length := by simp [namesN]
            rw [e]; exact h)
          have hL30 : (namesN N).length ≤ 30 := by simp [namesN]; omega
          have HBw := Lib.hid hbw
          clear HO hbw hsz
          obtain ⟨AL, cL, rfl, hL⟩ := own_is HO2.out
          have HL := Lib.hid hL
          generalize namesN N = L at *
          clear HO2 hL
          go_wp2
          clear x0 x2 hb
          go_loopw [6] (fun i wz => ∃ (k n : Nat), i = .int .i64 k ∧ k ≤ L.length ∧ wz = wr.drewN n) (fun i _ => L.length - (intOf i).toNat)
          case atStart => exact ⟨0, 0, rfl, Nat.zero_le _, rfl⟩
          case round =>
            obtain ⟨k, n, rfl, hk, rfl⟩ := hrel
            by_cases hlt : k < L.length
            · obtain ⟨bl, ol, rfl, ek⟩ := HL.out.sv hlt
              have hnk := HNm.out _ (List.getElem_mem hlt)
              have HC := Lib.hid (fun W => refName_c L[k] W (by have := name_short hnk; unfold maxLen; omega))
              rw [hnk] at HC
              have HNe : Hid (∀ j (hj : j < k), L[k] ≠ L[j]'(by omega)) := Lib.hid (fun j hj e => by
                have h1 := List.pairwise_iff_getElem.1 HAp.out j k (by omega) hlt hj
                exact h1 e.symm)
              clear hnk
              generalize L[k] = nm at *
              go_wp2_with fail
              refine (HC.out _).mono ?_
              rintro e w9 ⟨rfl, rfl⟩
              go_wp2
              go_loopw [7] (fun i wz => ∃ (j n : Nat), i = .int .i64 j ∧ j ≤ k ∧ wz = wr.drewN n) (fun i _ => k - (intOf i).toNat)
              case atStart => exact ⟨0, n, rfl, Nat.zero_le _, rfl⟩
              case round =>
                obtain ⟨j, n2, rfl, hj, rfl⟩ := hrel
                by_cases hjt : j < k
                · have hjl : j < L.length := by omega
                  obtain ⟨bl2, ol2, hBeq, ej⟩ := HL.out.sv hjl
                  injection hBeq with hBeq
                  injection hBeq with hB1 hB2
                  subst hB1 hB2
                  have hne : (nm == L[j]) = false := by simpa using HNe.out j hjt
                  generalize L[j] = nj at *
                  go_wp2
                  go_quiet (fail)
                  go_wp2
                  go_roundw
                  case rel => exact ⟨j + 1, _, by go_num, by omega, rfl⟩
                  case measure => simp [intOf]; omega
                · go_wp2
                  go_roundw
                  case rel => exact ⟨k + 1, n2, by go_num, by omega, rfl⟩
                  case measure => simp [intOf]; omega
            · go_wp2
              go_ret
              exact ⟨rfl, below_drewN HBw.out n⟩
end Go.Proofs.Ytmdnkpiihhaoeaa
namespace Go.Proofs.Ytmdnkpiihhaoeaa
open Go Go.RowKit Fl

set_option maxRecDepth 100000 in
set_option maxHeartbeats 1000000 in
theorem has_c (A : Option Addr) (c : Nat) (l : List Int) (x : Int) (w : World) (hh : Holds w A (l.map Iv)) (hl : l.length ≤ 1000000000000000000) :
    Calls Try.prog 27 #[.slice A l.length c, .int .i64 x] w fun e w' => e = .returned (.bool (decide (x ∈ l))) ∧ w = w' := by
  have HH := Lib.hid hh
  clear hh
  go_enter Try.func27, Try.ntmps27
  go_wp2
  go_loop [5] (fun i => ∃ k : Nat, k ≤ l.length ∧ i = .int .i64 k ∧ Hid (x ∉ l.take k)) (fun i => l.length - (intOf i).toNat)
  case atStart => exact ⟨0, Nat.zero_le _, rfl, Lib.hid (by simp)⟩
  case round =>
    obtain ⟨k, hk, rfl, HA⟩ := hrel
    by_cases hlt : k < l.length
    · obtain ⟨b, o, rfl, hc⟩ := HH.out.iv hlt
      by_cases he : l[k] = x
      · have HD : Hid (decide (x ∈ l) = true) := Lib.hid (by rw [decide_eq_true_eq, ← he]; exact List.getElem_mem hlt)
        have hb : (l[k] == x) = true := by rw [he]; simp
        clear HA he
        generalize l[k] = z at *
        go_wp2
        go_ret
        exact ⟨gr_bool HD.out.symm, rfl⟩
      · have hb : (l[k] == x) = false := by simpa using he
        have HA2 : Hid (x ∉ l.take (k + 1)) := Lib.hid (by
          rw [List.take_succ_eq_append_getElem hlt, List.mem_append, List.mem_singleton]
          rintro (h | h)
          · exact HA.out h
          · exact he h.symm)
        clear HA he
        generalize l[k] = z at *
        go_wp2
        go_round
        case rel => exact ⟨k + 1, by omega, by go_num, HA2⟩
        case measure => simp [intOf]; omega
    · have HD : Hid (decide (x ∈ l) = false) := Lib.hid (by
        have := HA.out
        rw [List.take_of_length_le (by omega)] at this
        rwa [decide_eq_false_iff_not])
      go_wp2
      go_ret
      exact ⟨gr_bool HD.out.symm, rfl⟩
/-- A list with x put before its k-th element on. -/
theorem insL_before {l : List Int} {x : Int} {k : Nat} (h : k < l.length) (hb : ∀ y ∈ l.take k, y ≤ x) (hx : x < l[k]) : insL l x = l.take k ++ x :: l.drop k := by
  induction l generalizing k with
  | nil => simp at h
  | cons y l ih =>
    cases k with
    | zero =>
      have hx' : x < y := by simpa using hx
      rw [insL, if_pos hx']; rfl
    | succ k =>
      have hy : y ≤ x := hb y (by simp)
      rw [insL, if_neg (by omega), ih (by simpa using h) (fun z hz => hb z (by simp [hz])) (by simpa using hx)]
      rfl
theorem insL_end {l : List Int} {x : Int} (hb : ∀ y ∈ l, y ≤ x) : insL l x = l ++ [x] := by
  induction l with
  | nil => rfl
  | cons y l ih =>
    have hy : y ≤ x := hb y (by simp)
    rw [insL, if_neg (by omega), ih (fun z hz => hb z (by simp [hz]))]
    rfl
/-- What Insert has made of the first k elements. -/
def InsRel (l : List Int) (x : Int) (k : Nat) (done : Bool) (out : List Int) : Prop :=
  (done = false ∧ out = l.take k ∧ ∀ y ∈ l.take k, y ≤ x) ∨ (done = true ∧ ∃ j, j < k ∧ ∃ h : j < l.length, x < l[j] ∧ (∀ y ∈ l.take j, y ≤ x) ∧ out = l.take j ++ x :: (l.take k).drop j)
theorem InsRel.length {l : List Int} {x : Int} {k : Nat} {d : Bool} {out : List Int} (h : InsRel l x k d out) : out.length ≤ k + 1 := by
  rcases h with ⟨_, rfl, _⟩ | ⟨_, j, hj, h1, _, _, rfl⟩
  · rw [List.length_take]; omega
  · simp; omega
theorem InsRel.put {l : List Int} {x : Int} {k : Nat} {out : List Int} (h : InsRel l x k false out) (hk : k < l.length) (hx : x < l[k]) : InsRel l x (k + 1) true ((out ++ [x]) ++ [l[k]]) := by
  rcases h with ⟨_, rfl, hb⟩ | ⟨h, _⟩
  · refine .inr ⟨rfl, k, by omega, hk, hx, hb, ?_⟩
    rw [List.take_succ_eq_append_getElem hk, List.drop_append, List.drop_of_length_le (by rw [List.length_take]; omega)]
    have : k - (l.take k).length = 0 := by rw [List.length_take]; omega
    rw [this]; simp
  · cases h
theorem InsRel.go {l : List Int} {x : Int} {k : Nat} {d : Bool} {out : List Int} (h : InsRel l x k d out) (hk : k < l.length) (hx : d = false → ¬ x < l[k]) : InsRel l x (k + 1) d (out ++ [l[k]]) := by
  rcases h with ⟨rfl, rfl, hb⟩ | ⟨rfl, j, hj, h1, h2, h3, rfl⟩
  · refine .inl ⟨rfl, (List.take_succ_eq_append_getElem hk).symm, fun y hy => ?_⟩
    rw [List.take_succ_eq_append_getElem hk, List.mem_append, List.mem_singleton] at hy
    have := hx rfl
    rcases hy with hy | rfl
    · exact hb y hy
    · omega
  · refine .inr ⟨rfl, j, by omega, h1, h2, h3, ?_⟩
    rw [List.take_succ_eq_append_getElem hk, List.drop_append_of_le_length (by rw [List.length_take]; omega)]
    simp
theorem InsRel.last {l : List Int} {x : Int} {k : Nat} {d : Bool} {out : List Int} (h : InsRel l x k d out) (hk : l.length ≤ k) : (if d then out else out ++ [x]) = insL l x := by
  rcases h with ⟨rfl, rfl, hb⟩ | ⟨rfl, j, hj, h1, h2, h3, rfl⟩
  · rw [List.take_of_length_le hk] at hb ⊢
    rw [insL_end hb]; rfl
  · rw [List.take_of_length_le hk, insL_before h1 h3 h2]; rfl
set_option maxRecDepth 100000 in
set_option maxHeartbeats 2000000 in
theorem insert_c (A : Option Addr) (c : Nat) (l : List Int) (x : Int) (w : World) (hh : Holds w A (l.map Iv)) (hl : l.length ≤ 1000000) :
    Calls Try.prog 63 #[.slice A l.length c, .int .i64 x] w fun e w' => ∃ v, e = .returned v ∧ w'.ownsRow w.heap.size 3 1 v (insL l x).length ((insL l x).map Iv) ∧ Below w.heap.size w w' := by
  have HH := Lib.hid hh
  clear hh
  go_enter Try.func63, Try.ntmps63
  go_wp2
  go_loopw [5, 6, 7] (fun v d i wr => ∃ (k : Nat) (db : Bool) (out : List Int), i = .int .i64 k ∧ k ≤ l.length ∧ d = .bool db ∧ Hid (InsRel l x k db out) ∧ Hid (wr.ownsRow w.heap.size 3 1 v out.length (out.map Iv)) ∧ Below w.heap.size w wr) (fun _ _ i _ => l.length - (intOf i).toNat)
  case atStart => exact ⟨0, false, [], rfl, Nat.zero_le _, rfl, Lib.hid (.inl ⟨rfl, rfl, by simp⟩), Lib.hid (World.ownsRow_nil _ _ _ _), Below.refl _ _⟩
  case round =>
    obtain ⟨k, db, out, rfl, hk, rfl, HI, HO, hb⟩ := hrel
    have hol := HI.out.length
    have hsz := hb.size
    by_cases hlt : k < l.length
    · obtain ⟨b, o, rfl, hc0⟩ := HH.out.iv hlt
      have hbw : b < w.heap.size := World.block_lt_of_cell? _ _ hc0
      have hc := (hb.cell (p := ⟨b, o + k, none⟩) hbw).trans hc0
      have HC0 := Lib.hid hc0
      have HG : Hid (db = true ∨ ¬ x < l[k] → InsRel l x (k + 1) db (out ++ [l[k]])) := Lib.hid (fun h => HI.out.go hlt (fun e => by rcases h with h | h; (rw [h] at e; cases e); exact h))
      have HP : Hid (db = false → x < l[k] → InsRel l x (k + 1) true ((out ++ [x]) ++ [l[k]])) := Lib.hid (fun e h => by subst e; exact HI.out.put hlt h)
      have base := own_base HO.out
      clear HI hc0
      generalize l[k] = z at *
      by_cases hp : db = false ∧ x < z
      · obtain ⟨rfl, hx⟩ := hp
        have HP2 := Lib.hid (HP.out rfl hx)
        clear HG HP
        go_wp2_with (at_builtin; refine app_int _ rfl _ _ rfl w.heap.size _ _ _ rfl (HO.out.alloc _) wr.heap.size x rfl (by simp [go_sem]) (by omega) (by simp; omega) ?_)
        intro v' w7 own7 hg7
        have hb7 : Below w.heap.size w w7 := (hb.alloc hb.size _).grown hg7 (by simp; omega) (fun k hk => base k hk)
        have HO7 : Hid (w7.ownsRow w.heap.size 3 1 v' (out ++ [x]).length ((out ++ [x]).map Iv)) := Lib.hid (by simpa using own7)
        have hc7 : w7.cell? ⟨b, o + k, none⟩ = some (.int .i64 z) := (hb7.cell (p := ⟨b, o + k, none⟩) hbw).trans HC0.out
        clear own7 hg7 base HO hc
        have base := own_base HO7.out
        have hl7 : (out ++ [x]).length ≤ 1000002 := by simp; omega
        have hsz := hb7.size
        generalize out ++ [x] = out' at *
        go_wp2_with (at_builtin; refine app_int _ rfl _ _ rfl w.heap.size _ _ _ rfl (HO7.out.alloc _) w7.heap.size z rfl (by simp [go_sem]) (by omega) (by simp; omega) ?_)
        intro v8 w8 own8 hg8
        have hb8 : Below w.heap.size w w8 := (hb7.alloc hb7.size _).grown hg8 (by simp; omega) (fun k hk => base k hk)
        have HO8 : Hid (w8.ownsRow w.heap.size 3 1 v8 (out' ++ [z]).length ((out' ++ [z]).map Iv)) := Lib.hid (by simpa using own8)
        clear own8 hg8 base HO7 hc7
        go_wp2
        go_roundw
        case rel => exact ⟨k + 1, true, _, by go_num, by omega, rfl, HP2, HO8, hb8⟩
        case measure => simp [intOf]; omega
      · have HG2 := Lib.hid (HG.out (by rcases db with _ | _; (right; exact fun h => hp ⟨rfl, h⟩); left; rfl))
        have hdd : db = true ∨ db = false ∧ decide (x < z) = false := by rcases db with _ | _; (right; refine ⟨rfl, ?_⟩; simp at hp; simpa using hp); left; rfl
        clear HG HP hp
        rcases hdd with rfl | ⟨rfl, hdx⟩
        all_goals
          go_wp2_with (at_builtin; refine app_int _ rfl _ _ rfl w.heap.size _ _ _ rfl (HO.out.alloc _) wr.heap.size z rfl (by simp [go_sem]) (by omega) (by simp; omega) ?_)
          intro v8 w8 own8 hg8
          have hb8 : Below w.heap.size w w8 := (hb.alloc hb.size _).grown hg8 (by simp; omega) (fun k hk => base k hk)
          have HO8 : Hid (w8.ownsRow w.heap.size 3 1 v8 (out ++ [z]).length ((out ++ [z]).map Iv)) := Lib.hid (by simpa using own8)
          clear own8 hg8 base HO hc
          go_wp2
          go_roundw
          case rel => exact ⟨k + 1, _, _, by go_num, by omega, rfl, HG2, HO8, hb8⟩
          case measure => simp [intOf]; omega
    · have HL := Lib.hid (HI.out.last (by omega))
      have base := own_base HO.out
      clear HI
      rcases db with _ | _
      · go_wp2_with (at_builtin; refine app_int _ rfl _ _ rfl w.heap.size _ _ _ rfl (HO.out.alloc _) wr.heap.size x rfl (by simp [go_sem]) (by omega) (by simp; omega) ?_)
        intro v8 w8 own8 hg8
        have hb8 : Below w.heap.size w w8 := (hb.alloc hb.size _).grown hg8 (by simp; omega) (fun k hk => base k hk)
        have HO8 : Hid (w8.ownsRow w.heap.size 3 1 v8 (out ++ [x]).length ((out ++ [x]).map Iv)) := Lib.hid (by simpa using own8)
        clear own8 hg8 base HO
        go_wp2
        go_ret
        exact ⟨_, rfl, by rw [← HL.out]; exact HO8.out, hb8⟩
      · go_wp2
        go_ret
        exact ⟨_, rfl, by rw [← HL.out]; exact HO.out, hb⟩
end Go.Proofs.Ytmdnkpiihhaoeaa
