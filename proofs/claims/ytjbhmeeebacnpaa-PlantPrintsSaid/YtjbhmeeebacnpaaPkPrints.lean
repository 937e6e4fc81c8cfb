/- PlantPrints returns true, for any bodies. -/
import Derived.Test.YtjbhmeeebacnpaaPnPrints
import Derived.Test.YtjbhmeeebacnpaaPkKnown
namespace Go.Proofs.Ytjbhmeeebacnpaa
open Go Go.RowKit Fl

theorem plantPrints_c (A0 A1 : Option Addr) (c0 c1 : Nat) (raw : List BodD) (zs : List Int) (w : World) (hr : Holds w A0 (bodS.cs raw)) (hz : IntsAt w w.heap.size A1 zs) (hzl : zs.length ≤ maxLen) (hfit : ∀ b ∈ raw, FitB b) :
    Calls Try.prog 4 #[.slice A0 raw.length c0, .slice A1 zs.length c1] w fun e w' => e = .returned (.bool true) ∧ Below w.heap.size w w' :=
  plantPrints_of A0 A1 c0 c1 raw zs w hr hz hzl hfit (fun W => known16_c W) (fun A c l W h hl hf => devClash_c A c l.length l rfl W h (by omega) hf) (fun b W => devFp_c b W) (fun A1 A2 c1 c2 xs W h1 h2 hl => sameIntsE_c A1 A2 c1 c2 xs W h1 h2 (by omega))
end Go.Proofs.Ytjbhmeeebacnpaa
