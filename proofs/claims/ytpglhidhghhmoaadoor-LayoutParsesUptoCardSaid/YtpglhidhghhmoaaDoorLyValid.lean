/- Contracts of layout.inRange and layout.Valid. -/
import Derived.Test.YtpglhidhghhmoaaDoorLyParse
namespace Go.Proofs.YtpglhidhghhmoaaDoor
open Go.RowKit Fl
attribute [local go_sem] bget

def rangeB (z : Int) : Bool := decide (-9999 ≤ z ∧ z ≤ 9999)
/-- The number at place k. -/
theorem Holds.int {w : World} {A : Option Addr} {zs : List Int} (h : Holds w A (zs.map I)) {k : Nat} (hk : k < zs.length) : ∃ b o, A = some ⟨b, o, none⟩ ∧ w.cell? ⟨b, o + k, none⟩ = some (.int .i64 zs[k]) := by
  obtain ⟨b, o, hA, _, hc⟩ := h.at_ (by simp; omega)
  exact ⟨b, o, hA, by rw [hc k (by simpa using hk)]; simp⟩
set_option maxRecDepth 100000 in
set_option maxHeartbeats 1000000 in
theorem inRange_c (A : Option Addr) (c : Nat) (zs : List Int) (w : World) (hh : Holds w A (zs.map I)) (hl : zs.length ≤ 1000000000000000000) :
    Calls Tryd.prog 34 #[.slice A zs.length c] w fun e w' => e = .returned (.bool (zs.all rangeB)) ∧ w = w' := by
  have HH := Lib.hid hh
  clear hh
  go_enter Tryd.func34, Tryd.ntmps34
  go_wp2
  go_loop [7] (fun i => ∃ k : Nat, k ≤ zs.length ∧ i = .int .i64 k ∧ Hid (zs.all rangeB = (zs.drop k).all rangeB)) (fun i => zs.length - (intOf i).toNat)
  case atStart => exact ⟨0, Nat.zero_le _, rfl, Lib.hid rfl⟩
  case round =>
    obtain ⟨k, hk, rfl, HA⟩ := hrel
    by_cases hlt : k < zs.length
    · obtain ⟨b, o, rfl, hc⟩ := HH.out.int hlt
      have hd := drop_all (p := rangeB) hlt
      generalize zs[k] = z at *
      by_cases h1 : z < -9999
      · have HA2 : Hid (zs.all rangeB = false) := Lib.hid (HA.out.trans (hd.trans (by rw [show rangeB z = false by unfold rangeB; simp; omega, Bool.false_and])))
        clear hd HA
        go_wp2
        go_ret
        exact ⟨ret_bool HA2.out.symm, rfl⟩
      · by_cases h2 : 9999 < z
        · have HA2 : Hid (zs.all rangeB = false) := Lib.hid (HA.out.trans (hd.trans (by rw [show rangeB z = false by unfold rangeB; simp; omega, Bool.false_and])))
          clear hd HA
          go_wp2
          go_ret
          exact ⟨ret_bool HA2.out.symm, rfl⟩
        · have HA2 := Lib.hid (HA.out.trans (hd.trans (by rw [show rangeB z = true by unfold rangeB; simp; omega, Bool.true_and])))
          clear hd HA
          go_wp2
          go_round
          case rel => exact ⟨k + 1, by omega, by go_num, HA2⟩
          case measure => simp [intOf]; omega
    · have HA2 : Hid (zs.all rangeB = true) := Lib.hid (HA.out.trans (by rw [List.drop_of_length_le (by omega)]; rfl))
      go_wp2
      go_ret
      exact ⟨ret_bool HA2.out.symm, rfl⟩
/-- What Valid reports, in its own steps. -/
def validB (d : DeclD) : Bool := decide (wordN d.word ≠ 0) && ((decide ((d.nums.length : Int) = shapeX (wordN d.word)) && (decide ((d.names.length : Int) = shapeN (wordN d.word)) || decide (wordN d.word = 2) && decide ((shapeN (wordN d.word) : Int) < d.names.length))) && (d.names.all name && d.nums.all rangeB))
set_option maxRecDepth 100000 in
set_option maxHeartbeats 4000000 in
theorem valid_c (d : DeclD) (A1 A2 : Option Addr) (c1 c2 : Nat) (w : World) (hg : Shapes w) (hn : Holds w A1 (d.names.map S)) (hx : Holds w A2 (d.nums.map I)) (hl1 : d.names.length ≤ 8796093021952) (hl2 : d.nums.length ≤ 1000000000000000000) (hs : ∀ f ∈ d.names, f.length ≤ maxLen) :
    Calls Tryd.prog 17 #[.agg #[.int .i64 d.word, .int .i64 d.line, .slice A1 d.names.length c1, .slice A2 d.nums.length c2]] w fun e w' => e = .returned (.bool (validB d)) ∧ Below w.heap.size w w' := by
  obtain ⟨dw, dl, ns, xs⟩ := d
  simp only at hn hx hl1 hl2 hs ⊢
  have hb0 : Below w.heap.size w (w.alloc (.cells #[.int .i64 dw, .int .i64 dl, .slice A1 ns.length c1, .slice A2 xs.length c2] 53)) := (Below.refl _ _).alloc (Nat.le_refl _) _
  have hD0 : (w.alloc (.cells #[.int .i64 dw, .int .i64 dl, .slice A1 ns.length c1, .slice A2 xs.length c2] 53)).heap[w.heap.size]? = some (.cells #[.int .i64 dw, .int .i64 dl, .slice A1 ns.length c1, .slice A2 xs.length c2] 53 (0, 0)) := heap_alloc_new _ _
  have HC := Lib.hid (fun W (hW : Shapes W) => shapeOfWord_c dw W hW)
  have HG := Lib.hid hg
  have HN := Lib.hid (fun W (hW : Below w.heap.size w W) => areNames_c A1 c1 ns W (hn.keep hW) hl1 hs)
  have HX := Lib.hid (fun W (hW : Below w.heap.size w W) => inRange_c A2 c2 xs W (hx.keep hW) hl2)
  have hl3 : (ns.length : Int) ≤ 8796093021952 := by omega
  clear hg hn hx hs
  go_enter Tryd.func17, Tryd.ntmps17
  go_wp2_with fail
  generalize w.alloc (.cells #[.int .i64 dw, .int .i64 dl, .slice A1 ns.length c1, .slice A2 xs.length c2] 53) = W0 at *
  refine (HC.out _ (HG.out.keep hb0)).mono ?_
  by_cases hw0 : wordN dw = 0
  · have HV : Hid (validB ⟨dw, dl, ns, xs⟩ = false) := Lib.hid (by unfold validB; simp [hw0])
    rw [hw0, show shapeV 0 = .agg #[.int .i64 0, .string ByteArray.empty, .int .i64 0, .int .i64 0, .bool false] from rfl]
    clear hw0
    rintro e W1 ⟨rfl, hb1⟩
    have HB := Lib.hid (hb0.trans (hb1.mono hb0.size))
    clear hb0 hb1 hD0 HC
    go_wp2
    go_ret
    exact ⟨ret_bool HV.out.symm, HB.out.alloc HB.out.size _⟩
  · have HV : Hid (validB ⟨dw, dl, ns, xs⟩ = ((decide ((xs.length : Int) = shapeX (wordN dw)) && (decide ((ns.length : Int) = shapeN (wordN dw)) || decide (wordN dw = 2) && decide ((shapeN (wordN dw) : Int) < ns.length))) && (ns.all name && xs.all rangeB))) := Lib.hid (by unfold validB; simp [hw0])
    rw [shapeV_pos hw0, show decide (wordN dw ≠ 0) = true by simpa using hw0]
    have HA := Lib.hid (fun W => allows_c (wordN dw) ⟨(wordText (wordN dw)).toArray⟩ (shapeN (wordN dw)) (shapeX (wordN dw)) ns.length xs.length (decide (wordN dw = 2)) W)
    rintro e W1 ⟨rfl, hb1⟩
    have hB := hb0.trans (hb1.mono hb0.size)
    have hD1 := (hb1.block _ (block_lt hD0)).trans hD0
    have d2 : ∀ ob, (W1.alloc ob).cell? ⟨w.heap.size, 2, none⟩ = some (.slice A1 ns.length c1) := fun ob => by rw [cell_of_row _ _ 2 _ _ _ ((heap_alloc_old W1 ob (block_lt hD1)).trans hD1)]; rfl
    have d3 : ∀ ob, (W1.alloc ob).cell? ⟨w.heap.size, 3, none⟩ = some (.slice A2 xs.length c2) := fun ob => by rw [cell_of_row _ _ 3 _ _ _ ((heap_alloc_old W1 ob (block_lt hD1)).trans hD1)]; rfl
    have HD1 := Lib.hid hD1
    have HB := Lib.hid hB
    clear hb0 hb1 hD0 HC hw0 hB hD1
    generalize wordText (wordN dw) = T at *
    generalize hNN : (shapeN (wordN dw) : Int) = NN at *
    generalize hXX : (shapeX (wordN dw) : Int) = XX at *
    generalize decide (wordN dw = 2) = bb at *
    generalize hal : (decide ((xs.length : Int) = XX) && (decide ((ns.length : Int) = NN) || bb && decide (NN < (ns.length : Int)))) = al at *
    clear hal
    go_wp2_with fail
    have HB1 := Lib.hid (HB.out.alloc HB.out.size (.cells #[.int .i64 (wordN dw), S T, .int .i64 NN, .int .i64 XX, .bool bb] 77))
    have HD2 := Lib.hid ((heap_alloc_old W1 (.cells #[.int .i64 (wordN dw), S T, .int .i64 NN, .int .i64 XX, .bool bb] 77) (block_lt HD1.out)).trans HD1.out)
    refine (HA.out _).mono ?_
    generalize W1.alloc (.cells #[.int .i64 (wordN dw), S T, .int .i64 NN, .int .i64 XX, .bool bb] 77) = W2 at *
    rintro e W3 ⟨rfl, hb3⟩
    have HB3 := Lib.hid (HB1.out.trans (hb3.mono HB1.out.size))
    have hD3 := (hb3.block _ (block_lt HD2.out)).trans HD2.out
    have d2 : W3.cell? ⟨w.heap.size, 2, none⟩ = some (.slice A1 ns.length c1) := by rw [cell_of_row _ _ 2 _ _ _ hD3]; rfl
    have d3 : W3.cell? ⟨w.heap.size, 3, none⟩ = some (.slice A2 xs.length c2) := by rw [cell_of_row _ _ 3 _ _ _ hD3]; rfl
    have HN3 := Lib.hid (HN.out W3 HB3.out)
    have HX3 := Lib.hid (HX.out W3 HB3.out)
    clear hD3 hb3 HB1 HD2 HD1 HA HB HN HX
    rcases al with _ | _
    · go_wp2
      go_ret
      exact ⟨ret_bool (by rw [HV.out]; rfl), HB3.out⟩
    · rcases hn : ns.all name with _ | _
      · rw [hn] at HN3 HV
        clear hn
        go_wp2_with fail
        refine HN3.out.mono ?_
        rintro e W4 ⟨rfl, rfl⟩
        go_wp2
        go_ret
        exact ⟨ret_bool (by rw [HV.out]; rfl), HB3.out⟩
      · rw [hn] at HN3 HV
        clear hn
        go_wp2_with fail
        refine HN3.out.mono ?_
        rintro e W4 ⟨rfl, rfl⟩
        go_wp2_with fail
        refine HX3.out.mono ?_
        rintro e W4 ⟨rfl, rfl⟩
        go_wp2
        go_ret
        exact ⟨ret_bool (by rw [HV.out]; rfl), HB3.out⟩
end Go.Proofs.YtpglhidhghhmoaaDoor
