/- Joined texts. -/
import Derived.Test.YtpehpnpkgjcjbaaGreatDoorShelf
import Derived.Test.YtpehpnpkgjcjbaaGreatDoorScope
import Derived.KernelRfl
import Derived.Shelf.Strings.BuilderK
import Derived.Test.YtpehpnpkgjcjbaaGreatDoorMjC
namespace Go.Proofs.YtpehpnpkgjcjbaaGreatDoor
open Go Go.RowKit Go.Shelf

theorem lays166 : Lays.n166 Tryz.prog Tryz.lays156_ren := { Tryz.lays156 with }
def ren167 : Ren := { Tryz.lays156_ren with f := fun | 167 => 25 | n => Tryz.lays156_ren.f n }
theorem lays167 : Lays.n167 Tryz.prog ren167 := { Tryz.lays156 with
  t5 := Tryz.underlying5
  a5 := Tryz.isAgg5
  z5 := Tryz.sizeOf5
  v5 := Tryz.zeroValue5
  f167 := Tryz.func25.trans (congrArg some (by kernel_rfl))
  f240 := Tryz.func47.trans (congrArg some (by kernel_rfl))
  f276 := Tryz.func62.trans (congrArg some (by kernel_rfl)) }
set_option maxRecDepth 100000 in
theorem extra167 : Builder.Extra Tryz.prog ren167 := { Tryz.Builder_Extra_156 with }
theorem ownsRowF_below {w w' : World} {base : Nat} {e : TypeId} {size n : Nat} {v : Value} {xs : List Value} (h : w.ownsRowF base e size v n xs) (hb : Below w.heap.size w w') : w'.ownsRowF base e size v n xs := by
  obtain ⟨h1, h2⟩ := h
  refine ⟨h1, ?_⟩
  rcases h2 with h2 | ⟨g, cap, cur, fz, hv, hg, hh, hr⟩
  · exact .inl h2
  · exact .inr ⟨g, cap, cur, fz, hv, hg, (hb.block g (block_lt hh)).trans hh, hr⟩
theorem builderF_keep {T e : TypeId} {B b : Nat} {bs : List Value} {w w' : World} (h : Lib.IsBuilderF T e B b bs w) (hb : Below w.heap.size w w') : Lib.IsBuilderF T e B b bs w' := by
  have key : ∀ p, Lib.BuilderAtF T e B b p bs w → Lib.BuilderAtF T e B b p bs w' := by
    rintro p ⟨h1, v, h2, h3, h4⟩
    exact ⟨h1, v, (hb.block b (block_lt h2)).trans h2, ownsRowF_below h3 hb, h4⟩
  rcases h with h | h
  · exact .inl (key _ h)
  · exact .inr (key _ h)
theorem builderF_new (w : World) : Lib.IsBuilderF 79 5 w.heap.size w.heap.size (Lib.byteCells []) (w.alloc (.cells #[.pointer none, .slice none 0 0] 79)) :=
  .inl ⟨Nat.le_refl _, .slice none 0 0, heap_alloc_new w _, World.ownsRowF_nil _ _ _ _, by simp [Value.ownBlock]⟩
theorem strCells_list (l : List UInt8) : Lib.strCells ⟨l.toArray⟩ = Lib.byteCells l := rfl
theorem byteCells_append (a b : List UInt8) : Lib.byteCells a ++ Lib.byteCells b = Lib.byteCells (a ++ b) := by simp [Lib.byteCells]
/-- A block of another type than the builder's bytes stays. -/
theorem others_block {e : TypeId} {b : Option Nat} {w w' : World} (h : Lib.OthersKept e b w w') {k : Nat} {cs : Array Value} {t : TypeId} {fz : Nat × Nat} (hk : w.heap[k]? = some (.cells cs t fz)) (hb : some k ≠ b) (ht : t ≠ e) : w'.heap[k]? = some (.cells cs t fz) :=
  h k _ hk hb (fun c fz e' => by injection e' with _ e2; exact ht e2)
theorem writeString_c (B b : Nat) (acc l : List UInt8) (w : World) (h : Lib.IsBuilderF 79 5 B b (Lib.byteCells acc) w) (hlen : acc.length + l.length ≤ 140737488355328) (hBw : B ≤ w.heap.size) :
    Calls Tryz.prog 22 #[.pointer (some ⟨b, 0, none⟩), .string ⟨l.toArray⟩] w fun e w' => ∃ n : Nat, e = .returned (.tuple #[.int .i64 n, .nilIface]) ∧ Lib.IsBuilderF 79 5 B b (Lib.byteCells (acc ++ l)) w' ∧ Below B w w' ∧ Lib.OthersKept 5 (some b) w w' :=
  (Any.Builder_WriteString_k lays166 Tryz.Builder_Extra_156 B b (Lib.byteCells acc) ⟨l.toArray⟩ w h (by rw [Lib.byteCells_length]; exact hlen) hBw).mono fun _ _ ⟨he, h1, h2, h3⟩ => ⟨_, he, by rw [strCells_list, byteCells_append] at h1; exact .inr h1, h2, h3⟩
theorem writeByte_c (B b : Nat) (acc : List UInt8) (w : World) (h : Lib.IsBuilderF 79 5 B b (Lib.byteCells acc) w) (hlen : acc.length + 1 ≤ 140737488355328) (hBw : B ≤ w.heap.size) :
    Calls Tryz.prog 25 #[.pointer (some ⟨b, 0, none⟩), .int .u8 10] w fun e w' => e = .returned .nilIface ∧ Lib.IsBuilderF 79 5 B b (Lib.byteCells (acc ++ [10])) w' ∧ Below B w w' ∧ Lib.OthersKept 5 (some b) w w' :=
  (Any.Builder_WriteByte_k lays167 extra167 B b (Lib.byteCells acc) 10 w h (by rw [Lib.byteCells_length]; exact hlen) hBw).mono fun _ _ ⟨he, h1, h2, h3⟩ => ⟨he, .inr (by
    have e1 : Lib.byteCells acc ++ [Value.int .u8 10] = Lib.byteCells (acc ++ [10]) := by rw [← byteCells_append]; rfl
    rw [e1] at h1; exact h1), h2, h3⟩
theorem len_c (B b : Nat) (acc : List UInt8) (w : World) (h : Lib.IsBuilderF 79 5 B b (Lib.byteCells acc) w) :
    Calls Tryz.prog 26 #[.pointer (some ⟨b, 0, none⟩)] w fun e w' => e = .returned (.int .i64 acc.length) ∧ w = w' :=
  (Tryz.Builder_Len_f B b (Lib.byteCells acc) w h).mono fun _ _ ⟨he, hw⟩ => ⟨by rw [he, Lib.byteCells_length], hw.symm⟩
theorem string_c (B b : Nat) (acc : List UInt8) (w : World) (h : Lib.IsBuilderF 79 5 B b (Lib.byteCells acc) w) (hBw : B ≤ w.heap.size) :
    Calls Tryz.prog 27 #[.pointer (some ⟨b, 0, none⟩)] w fun e w' => e = .returned (.string ⟨acc.toArray⟩) ∧ Below B w w' :=
  (Tryz.Builder_String_any_k B b acc w h hBw).mono fun _ _ ⟨he, _, h2, _⟩ => ⟨he, h2⟩
theorem repeat_c (z : Int) (w : World) (h0 : 0 ≤ z) (h1 : z ≤ 1000000) :
    Calls Tryz.prog 23 #[.string ⟨#[10]⟩, .int .i64 z] w fun e w' => e = .returned (.string ⟨(Lib.repeatL [10] z.toNat).toArray⟩) ∧ Below w.heap.size w w' := by
  obtain ⟨c, rfl⟩ := Int.eq_ofNat_of_zero_le h0
  exact Tryz.strings_Repeat ⟨#[10]⟩ c w (by omega) (by show 1 * c ≤ _; omega)
theorem joinS_c (fs : List (List UInt8)) (A : Option Addr) (c : Nat) (w : World) (h : Holds w A (fs.map fun l => Value.string ⟨l.toArray⟩)) (hpos : 0 < fs.length) (hcap : fs.length ≤ c) (hn : fs.length ≤ 140737488355328) (hlen : (Lib.join fs [32]).length ≤ 140737488355328) :
    Calls Tryz.prog 24 #[.slice A fs.length c, .string ⟨#[32]⟩] w fun e w' => e = .returned (.string ⟨(Lib.join fs [32]).toArray⟩) ∧ Below w.heap.size w w' := by
  obtain ⟨b, o, rfl, hlt, hc⟩ := h.at_ (by simpa using hpos)
  have e1 : (fs.map fun l => (⟨l.toArray⟩ : ByteArray)).map (·.data.toList) = fs :=
    (List.map_map ..).trans ((List.map_congr_left fun _ _ => rfl).trans (List.map_id fs))
  have := Tryz.strings_Join b o c (fs.map fun l => ⟨l.toArray⟩) ⟨#[32]⟩ w (fun j x hx => by
    obtain ⟨hj, he⟩ := List.getElem?_eq_some_iff.1 hx
    rw [hc j (by simpa using hj)]
    simp at he
    simp [he]) hlt (by simpa using hn) (by simpa using hcap) (by rw [e1]; exact hlen)
  rw [e1] at this
  simpa using this
end Go.Proofs.YtpehpnpkgjcjbaaGreatDoor
namespace Go.Proofs.YtpehpnpkgjcjbaaGreatDoor
open Go.RowKit Fl
attribute [local go_sem] bget

def JoinPost (w : World) (R : Except Nat (List UInt8)) (e : Ending) (w' : World) : Prop :=
  Below w.heap.size w w' ∧ match R with
    | .ok t => e = .returned (.tuple #[.string ⟨t.toArray⟩, .int .i64 0])
    | .error k => e = .returned (.tuple #[.string ⟨#[]⟩, .int .i64 k])
theorem formed_facts {last : Int} {ls : List LineI} {k : Nat} (h : k < ls.length) (hf : formed last (ls.drop k) = true) : last < ls[k].1 ∧ 0 < ls[k].2.length ∧ ls[k].2.all fieldOk = true ∧ formed ls[k].1 (ls.drop (k + 1)) = true := by
  rw [formed_drop h] at hf
  simp only [Bool.and_eq_true, decide_eq_true_eq] at hf
  exact ⟨hf.1.1.1, List.length_pos_iff.2 hf.1.1.2, hf.1.2, hf.2⟩

set_option maxRecDepth 100000 in
set_option maxHeartbeats 4000000 in
theorem join_c (A : Option Addr) (c : Nat) (ls : List LineI) (w : World) (h : RawAt w A ls) (hl : ls.length ≤ 8796093021952) (hf : ∀ x ∈ ls, x.2.length ≤ 8796093021952) (hs : ∀ x ∈ ls, ∀ f ∈ x.2, f.length ≤ maxLen) (hn : ∀ x ∈ ls, -9223372036854775808 ≤ x.1 ∧ x.1 ≤ 9223372036854775807) :
    Calls Tryz.prog 8 #[.slice A ls.length c] w (JoinPost w (joinT ls)) := by
  have V := Lib.hid (validLines_c A c ls w h hl hf hs hn)
  have H := Lib.hid h
  have HF := Lib.hid hf
  have HNN := Lib.hid hn
  clear h hf hs hn
  go_enter Tryz.func8, Tryz.ntmps8
  go_wp2_with fail
  refine V.out.mono ?_
  clear V
  rintro e w1 ⟨rfl, hb1⟩
  rcases hv : formed 0 ls with _ | _
  · have HX : Hid (joinT ls = .error 20) := Lib.hid (by unfold joinT; rw [hv]; rfl)
    clear hv
    go_wp2_with fail
    go_ret2
    exact ⟨hb1, by rw [HX.out]; rfl⟩
  · have HX : Hid (joinT ls = joinA 0 [] (ls.drop 0)) := Lib.hid (by unfold joinT; rw [hv]; rfl)
    have HV := Lib.hid hv
    clear hv
    go_wp2_with fail
    have hbn := builderF_new w1
    have hb2 : Below w.heap.size w (w1.alloc (.cells #[.pointer none, .slice none 0 0] 79)) := hb1.alloc hb1.size _
    have hB1 : w.heap.size ≤ w1.heap.size := hb1.size
    have hB2 : w1.heap.size < (w1.alloc (.cells #[.pointer none, .slice none 0 0] 79)).heap.size := by simp
    go_wp2
    generalize w1.alloc (.cells #[.pointer none, .slice none 0 0] 79) = w2 at *
    generalize w1.heap.size = B at *
    clear hb1
    go_loopw [5, 13] (fun la i wr => ∃ (k : Nat) (last : Int) (acc : List UInt8), i = .int .i64 k ∧ la = .int .i64 last ∧ k ≤ ls.length ∧ 0 ≤ last ∧ last ≤ 6000 ∧ acc.length ≤ 6000 ∧ B < wr.heap.size ∧ Below w.heap.size w wr ∧ Hid (Lib.IsBuilderF 79 5 B B (Lib.byteCells acc) wr) ∧ Hid (formed last (ls.drop k) = true) ∧ Hid (joinT ls = joinA last acc (ls.drop k))) (fun _ i _ => ls.length - (intOf i).toNat)
    case atStart => exact ⟨0, 0, [], rfl, rfl, Nat.zero_le _, by omega, by omega, by simp, hB2, hb2, Lib.hid hbn, HV, HX⟩
    case round =>
      obtain ⟨k, last, acc, rfl, rfl, hk, hla0, hla1, hacc, hBr, hb, HB, HFm, HJ⟩ := hrel
      clear hbn hb2 hB2
      by_cases hlt : k < ls.length
      · obtain ⟨b, o, A', c', rfl, e1w, e2w, hcap, hh⟩ := H.out.line hlt
        have e1 := (hb.cell (p := ⟨b, o + k * 2, none⟩) (World.block_lt_of_cell? _ _ e1w)).trans e1w
        have e2 := (hb.cell (p := ⟨b, o + k * 2 + 1, none⟩) (World.block_lt_of_cell? _ _ e2w)).trans e2w
        clear e1w e2w
        have HH := Lib.hid hh
        clear hh
        have hfl := HF.out _ (List.getElem_mem hlt)
        have hnn := HNN.out _ (List.getElem_mem hlt)
        obtain ⟨hgt, hpos, hall, hfm⟩ := formed_facts hlt HFm.out
        have HALL := Lib.hid hall
        have HFM := Lib.hid hfm
        have hjl := join_length_le _ hall
        clear HFm hall hfm
        obtain ⟨hn1, hn2⟩ := hnn
        by_cases hbig : 6000 < ls[k].1
        · have HE := Lib.hid (HJ.out.trans (joinA_num hlt hbig))
          clear HJ HALL HFM HH hjl
          generalize ls[k] = x at *
          go_wp2_with fail
          go_ret2
          exact ⟨hb.alloc hb.size _, by rw [HE.out]; rfl⟩
        · have hsm : ls[k].1 ≤ 6000 := by omega
          obtain ⟨t, ht⟩ : ∃ t, t = acc ++ Lib.repeatL [10] (ls[k].1 - last - 1).toNat ++ Lib.join ls[k].2 [32] ++ [10] := ⟨_, rfl⟩
          have HJ2 : Hid ((6000 < t.length → joinT ls = .error 1) ∧ (t.length ≤ 6000 → joinT ls = joinA ls[k].1 t (ls.drop (k + 1)))) :=
            Lib.hid ⟨fun h => HJ.out.trans (joinA_big hlt hsm ht h), fun h => HJ.out.trans (joinA_step hlt hsm ht h)⟩
          clear HJ hbig
          generalize hx : ls[k] = x at *
          clear hx
          obtain ⟨n, fs⟩ := x
          dsimp only at *
          have HT := Lib.hid ht
          clear ht
          have hrl : (Lib.repeatL [10] (n - last - 1).toNat).length ≤ 6000 := by rw [Lib.repeatL_length]; simp; omega
          -- the line's own block
          have hL0 : (wr.alloc (.cells #[.int .i64 n, .slice A' fs.length c'] 52)).heap[wr.heap.size]? = some (.cells #[.int .i64 n, .slice A' fs.length c'] 52 (0, 0)) := heap_alloc_new wr _
          have HB0 := Lib.hid (builderF_keep HB.out (w' := wr.alloc (.cells #[.int .i64 n, .slice A' fs.length c'] 52)) ((Below.refl _ _).alloc (Nat.le_refl _) _))
          have hbw0 : Below w.heap.size w (wr.alloc (.cells #[.int .i64 n, .slice A' fs.length c'] 52)) := hb.alloc hb.size _
          have HL0 := Lib.hid hL0
          have hsz0 : wr.heap.size < (wr.alloc (.cells #[.int .i64 n, .slice A' fs.length c'] 52)).heap.size := by simp
          clear hL0 HB
          go_wp2_with fail
          generalize wr.alloc (.cells #[.int .i64 n, .slice A' fs.length c'] 52) = W0 at *
          have hLB : B ≠ wr.heap.size := by omega
          have hBL : B ≤ wr.heap.size := by omega
          generalize wr.heap.size = L at *
          clear hb e1 e2
          -- the line feeds
          refine (repeat_c _ W0 (by omega) (by omega)).mono ?_
          rintro e w4 ⟨rfl, hb4⟩
          have HB4 := Lib.hid (builderF_keep HB0.out hb4)
          have HL4 := Lib.hid ((hb4.block L hsz0).trans HL0.out)
          have hbw4 := below_later hbw0 hb4
          have hsz4 : L < w4.heap.size := by have := hb4.size; omega
          clear HB0 HL0 hb4 hsz0 hbw0
          generalize Lib.repeatL [10] (n - last - 1).toNat = rp at *
          go_wp2_with fail
          refine (writeString_c B B acc rp w4 HB4.out (by omega) (by omega)).mono ?_
          rintro e w5 ⟨m5, rfl, hB5, hb5, ho5⟩
          have HB5 := Lib.hid hB5
          have HL5 := Lib.hid (others_block ho5 HL4.out (fun e => by injection e with e; exact hLB e.symm) (by decide))
          have hbw5 := hbw4.trans (hb5.mono hB1)
          have hsz5 : L < w5.heap.size := by have := hb5.size; omega
          have hc51 : w5.cell? ⟨L, 1, none⟩ = some (.slice A' fs.length c') := by rw [cell_of_row w5 L 1 _ _ (0, 0) HL5.out]; rfl
          have hH5 := HH.out.keep hbw5
          clear HB4 HL4 hB5 hb5 ho5 hbw4 HH
          go_wp2_with fail
          refine (joinS_c fs A' c' w5 hH5 hpos hcap (by omega) (by omega)).mono ?_
          rintro e w6 ⟨rfl, hb6⟩
          have HB6 := Lib.hid (builderF_keep HB5.out hb6)
          have HL6 := Lib.hid ((hb6.block L hsz5).trans HL5.out)
          have hbw6 := below_later hbw5 hb6
          have hsz6 : L < w6.heap.size := by have := hb6.size; omega
          generalize Lib.join fs [32] = jn at *
          have hlen1 : (acc ++ rp).length ≤ 12000 := by simp; omega
          clear HB5 HL5 hb6 hsz5 hbw5 hH5 hc51 hsz4
          go_wp2_with fail
          refine (writeString_c B B (acc ++ rp) jn w6 HB6.out (by omega) (by omega)).mono ?_
          rintro e w7 ⟨m7, rfl, hB7, hb7, ho7⟩
          have HB7 := Lib.hid hB7
          have HL7 := Lib.hid (others_block ho7 HL6.out (fun e => by injection e with e; exact hLB e.symm) (by decide))
          have hbw7 := hbw6.trans (hb7.mono hB1)
          have hsz7 : L < w7.heap.size := by have := hb7.size; omega
          have hlen2 : (acc ++ rp ++ jn).length ≤ 12000 + jn.length := by simp; omega
          clear HB6 HL6 hB7 hb7 ho7 hbw6 hsz6
          go_wp2_with fail
          refine (writeByte_c B B (acc ++ rp ++ jn) w7 HB7.out (by omega) (by omega)).mono ?_
          rintro e w8 ⟨rfl, hB8, hb8, ho8⟩
          have hT8 : acc ++ rp ++ jn ++ [10] = t := by rw [HT.out]
          rw [hT8] at hB8
          have HB8 := Lib.hid hB8
          have HL8 := others_block ho8 HL7.out (fun e => by injection e with e; exact hLB e.symm) (by decide)
          have hc80 : w8.cell? ⟨L, 0, none⟩ = some (.int .i64 n) := by rw [cell_of_row w8 L 0 _ _ (0, 0) HL8]; rfl
          have hbw8 := hbw7.trans (hb8.mono hB1)
          have hsz8 : L < w8.heap.size := by have := hb8.size; omega
          have htl : t.length ≤ 12001 + jn.length := by rw [← hT8]; simp at hlen2 ⊢; omega
          clear HB7 HL7 hB8 hb8 ho8 hbw7 hsz7 HL8 hT8 hlen1 hlen2
          go_wp2_with fail
          refine (len_c B B t w8 HB8.out).mono ?_
          rintro e w9 ⟨rfl, rfl⟩
          by_cases htb : 6000 < t.length
          · have HE := Lib.hid (HJ2.out.1 htb)
            go_wp2_with fail
            go_ret2
            exact ⟨hbw8, by rw [HE.out]; rfl⟩
          · have HE := Lib.hid (HJ2.out.2 (by omega))
            have hts : t.length ≤ 6000 := by omega
            clear htb HJ2
            go_wp2_with fail
            go_roundw
            case rel => exact ⟨k + 1, n, t, by go_num, rfl, by omega, by omega, by omega, hts, by omega, hbw8, HB8, HFM, HE⟩
            case measure => simp [intOf]; omega
      · have HE := Lib.hid (HJ.out.trans (joinA_end (by omega)))
        clear HJ HFm
        go_wp2_with fail
        refine (string_c B B acc _ HB.out (by omega)).mono ?_
        rintro e w3 ⟨rfl, hb3⟩
        go_wp2_with fail
        go_ret2
        exact ⟨hb.trans (hb3.mono hB1), by rw [HE.out]; rfl⟩
end Go.Proofs.YtpehpnpkgjcjbaaGreatDoor
