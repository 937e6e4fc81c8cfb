/- Contracts of the library's strings.Builder that the kit's command does not lay at this translation: WriteString, WriteByte. Each is one application of the library's theorem. -/
import Derived.Test.YtngapogkhpnieaaDoorShelf
import Derived.Test.YtngapogkhpnieaaDoorScope
import Derived.KernelRfl
import Derived.Shelf.Strings.BuilderK
namespace Go.Proofs.YtngapogkhpnieaaDoor
open Go Go.RowKit Go.Shelf

theorem lays166 : Lays.n166 Tryd.prog Tryd.lays156_ren := { Tryd.lays156 with }
def ren167 : Ren := { Tryd.lays156_ren with f := fun | 167 => 36 | n => Tryd.lays156_ren.f n }
theorem lays167 : Lays.n167 Tryd.prog ren167 := { Tryd.lays156 with
  t5 := Tryd.underlying5
  a5 := Tryd.isAgg5
  z5 := Tryd.sizeOf5
  v5 := Tryd.zeroValue5
  f167 := Tryd.func36.trans (congrArg some (by kernel_rfl))
  f240 := Tryd.func47.trans (congrArg some (by kernel_rfl))
  f276 := Tryd.func56.trans (congrArg some (by kernel_rfl)) }
theorem extra167 : Builder.Extra Tryd.prog ren167 := { Tryd.Builder_Extra_156 with }
theorem ownsRowF_below {w w' : World} {base : Nat} {e : TypeId} {size n : Nat} {v : Value} {xs : List Value} (h : w.ownsRowF base e size v n xs) (hb : Below w.heap.size w w') : w'.ownsRowF base e size v n xs := by
  obtain ⟨h1, h2⟩ := h
  refine ⟨h1, ?_⟩
  rcases h2 with h2 | ⟨g, cap, cur, fz, hv, hg, hh, hr⟩
  · exact .inl h2
  · exact .inr ⟨g, cap, cur, fz, hv, hg, (hb.block g (block_lt hh)).trans hh, hr⟩
theorem builderF_keep {T e : TypeId} {B b : Nat} {bs : List Value} {w w' : World} (h : Lib.IsBuilderF T e B b bs w) (hb : Below w.heap.size w w') : Lib.IsBuilderF T e B b bs w' := by
  have key : ∀ p, Lib.BuilderAtF T e B b p bs w → Lib.BuilderAtF T e B b p bs w' := by
    rintro p ⟨h1, v, h2, h3, h4⟩
    exact ⟨h1, v, (hb.block b (block_lt h2)).trans h2, ownsRowF_below h3 hb, h4⟩
  rcases h with h | h
  · exact .inl (key _ h)
  · exact .inr (key _ h)
theorem builderF_new (w : World) : Lib.IsBuilderF 62 5 w.heap.size w.heap.size (Lib.byteCells []) (w.alloc (.cells #[.pointer none, .slice none 0 0] 62)) :=
  .inl ⟨Nat.le_refl _, .slice none 0 0, heap_alloc_new w _, World.ownsRowF_nil _ _ _ _, by simp [Value.ownBlock]⟩
theorem strCells_list (l : List UInt8) : Lib.strCells ⟨l.toArray⟩ = Lib.byteCells l := rfl
theorem byteCells_append (a b : List UInt8) : Lib.byteCells a ++ Lib.byteCells b = Lib.byteCells (a ++ b) := by simp [Lib.byteCells]
/-- A block of another type than the builder's bytes stays. -/
theorem others_block {e : TypeId} {b : Option Nat} {w w' : World} (h : Lib.OthersKept e b w w') {k : Nat} {cs : Array Value} {t : TypeId} {fz : Nat × Nat} (hk : w.heap[k]? = some (.cells cs t fz)) (hb : some k ≠ b) (ht : t ≠ e) : w'.heap[k]? = some (.cells cs t fz) :=
  h k _ hk hb (fun c fz e' => by injection e' with _ e2; exact ht e2)
theorem writeString_c (B b : Nat) (acc l : List UInt8) (w : World) (h : Lib.IsBuilderF 62 5 B b (Lib.byteCells acc) w) (hlen : acc.length + l.length ≤ 140737488355328) (hBw : B ≤ w.heap.size) :
    Calls Tryd.prog 33 #[.pointer (some ⟨b, 0, none⟩), .string ⟨l.toArray⟩] w fun e w' => ∃ n : Nat, e = .returned (.tuple #[.int .i64 n, .nilIface]) ∧ Lib.IsBuilderF 62 5 B b (Lib.byteCells (acc ++ l)) w' ∧ Below B w w' ∧ Lib.OthersKept 5 (some b) w w' :=
  (Any.Builder_WriteString_k lays166 Tryd.Builder_Extra_156 B b (Lib.byteCells acc) ⟨l.toArray⟩ w h (by rw [Lib.byteCells_length]; exact hlen) hBw).mono fun _ _ ⟨he, h1, h2, h3⟩ => ⟨_, he, by rw [strCells_list, byteCells_append] at h1; exact .inr h1, h2, h3⟩
theorem writeByte_c (B b : Nat) (acc : List UInt8) (w : World) (h : Lib.IsBuilderF 62 5 B b (Lib.byteCells acc) w) (hlen : acc.length + 1 ≤ 140737488355328) (hBw : B ≤ w.heap.size) :
    Calls Tryd.prog 36 #[.pointer (some ⟨b, 0, none⟩), .int .u8 10] w fun e w' => e = .returned .nilIface ∧ Lib.IsBuilderF 62 5 B b (Lib.byteCells (acc ++ [10])) w' ∧ Below B w w' ∧ Lib.OthersKept 5 (some b) w w' :=
  (Any.Builder_WriteByte_k lays167 extra167 B b (Lib.byteCells acc) 10 w h (by rw [Lib.byteCells_length]; exact hlen) hBw).mono fun _ _ ⟨he, h1, h2, h3⟩ => ⟨he, .inr (by
    have e1 : Lib.byteCells acc ++ [Value.int .u8 10] = Lib.byteCells (acc ++ [10]) := by rw [← byteCells_append]; rfl
    rw [e1] at h1; exact h1), h2, h3⟩
theorem len_c (B b : Nat) (acc : List UInt8) (w : World) (h : Lib.IsBuilderF 62 5 B b (Lib.byteCells acc) w) :
    Calls Tryd.prog 37 #[.pointer (some ⟨b, 0, none⟩)] w fun e w' => e = .returned (.int .i64 acc.length) ∧ w = w' :=
  (Tryd.Builder_Len_f B b (Lib.byteCells acc) w h).mono fun _ _ ⟨he, hw⟩ => ⟨by rw [he, Lib.byteCells_length], hw.symm⟩
theorem string_c (B b : Nat) (acc : List UInt8) (w : World) (h : Lib.IsBuilderF 62 5 B b (Lib.byteCells acc) w) (hBw : B ≤ w.heap.size) :
    Calls Tryd.prog 38 #[.pointer (some ⟨b, 0, none⟩)] w fun e w' => e = .returned (.string ⟨acc.toArray⟩) ∧ Below B w w' :=
  (Tryd.Builder_String_any_k B b acc w h hBw).mono fun _ _ ⟨he, _, h2, _⟩ => ⟨he, h2⟩
theorem repeat_c (z : Int) (w : World) (h0 : 0 ≤ z) (h1 : z ≤ 1000000) :
    Calls Tryd.prog 34 #[.string ⟨#[10]⟩, .int .i64 z] w fun e w' => e = .returned (.string ⟨(Lib.repeatL [10] z.toNat).toArray⟩) ∧ Below w.heap.size w w' := by
  obtain ⟨c, rfl⟩ := Int.eq_ofNat_of_zero_le h0
  exact Tryd.strings_Repeat ⟨#[10]⟩ c w (by omega) (by show 1 * c ≤ _; omega)
theorem joinS_c (fs : List (List UInt8)) (A : Option Addr) (c : Nat) (w : World) (h : Holds w A (fs.map fun l => Value.string ⟨l.toArray⟩)) (hpos : 0 < fs.length) (hcap : fs.length ≤ c) (hn : fs.length ≤ 140737488355328) (hlen : (Lib.join fs [32]).length ≤ 140737488355328) :
    Calls Tryd.prog 35 #[.slice A fs.length c, .string ⟨#[32]⟩] w fun e w' => e = .returned (.string ⟨(Lib.join fs [32]).toArray⟩) ∧ Below w.heap.size w w' := by
  obtain ⟨b, o, rfl, hlt, hc⟩ := h.at_ (by simpa using hpos)
  have e1 : (fs.map fun l => (⟨l.toArray⟩ : ByteArray)).map (·.data.toList) = fs :=
    (List.map_map ..).trans ((List.map_congr_left fun _ _ => rfl).trans (List.map_id fs))
  have := Tryd.strings_Join b o c (fs.map fun l => ⟨l.toArray⟩) ⟨#[32]⟩ w (fun j x hx => by
    obtain ⟨hj, he⟩ := List.getElem?_eq_some_iff.1 hx
    rw [hc j (by simpa using hj)]
    simp at he
    simp [he]) hlt (by simpa using hn) (by simpa using hcap) (by rw [e1]; exact hlen)
  rw [e1] at this
  simpa using this
end Go.Proofs.YtngapogkhpnieaaDoor
