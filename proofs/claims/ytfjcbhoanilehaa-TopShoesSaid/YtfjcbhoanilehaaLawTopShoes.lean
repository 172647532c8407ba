/- TopShoes returns true for every input; no statement is proved here. -/
import Derived.Test.YtfjcbhoanilehaaTopShoes
namespace Go.Proofs.Ytfjcbhoanilehaa.Outl
open Go.ChangeShapes Go.WideShapes Go.ChangeAt Go.RowKit Go.Shelf

theorem lawTopShoes_any (A : Option Addr) (n c : Nat) (p : Nat → Pt) (hn : n ≤ c) (hc : c ≤ 9223372036854775807) (A' : Option Addr) (m d : Nat) (q : Nat → Pt) (hm : m ≤ d) (hd : d ≤ 9223372036854775807) (L F B : Int) (w : World) (hp : Has w A n p) (hq : Has w A' m q) :
    Calls Try.prog 3 #[.slice A n c, .slice A' m d, .agg #[.int .i64 L, .int .i64 F, .int .i64 B]] w fun e w' => e = .returned (.bool true) ∧ Below w.heap.size w w' := by
  cases hs : (shortB n && shortB m)
  · exact shoes_long A n c p hn hc A' m d q hm hd L F B hs w hp hq
  · cases hv : (vC p n && (vC q m && fitV L F B))
    · exact shoes_bad A n c p hn hc A' m d q hm hd L F B hs (by unfold mfK; rw [hv]; decide) w hp hq
    · simp only [Bool.and_eq_true] at hv
      exact shoes_ok A n c p hn hc A' m d q hm hd L F B hs hv.1 hv.2.1 hv.2.2 w hp hq
end Go.Proofs.Ytfjcbhoanilehaa.Outl
