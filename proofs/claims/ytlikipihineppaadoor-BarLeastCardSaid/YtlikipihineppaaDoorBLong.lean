/- The pieces, the longest first, walked; no statement is proved here. -/
import Derived.Test.YtlikipihineppaaDoorBSortM
import Derived.Test.YtlikipihineppaaDoorBSortL
import Derived.Test.YtlikipihineppaaDoorBNumber
import Derived.Lib.OwnBridge
import Derived.Test.YtlikipihineppaaDoorShelf
import Derived.Deep.QuietTactic
namespace Go.Proofs.YtlikipihineppaaDoor
open Go.ChangeShapes Go.WideShapes Go.ChangeAt Go.RowKit Go.Sort Go.Shelf

def lmN (l : Nat → Int) (n i : Nat) : Int := l (min i (n - 1))
def encN (n x : Nat) : Value := .int .i64 ((min x (n - 1) : Nat) : Int)
def cfN (l : Nat → Int) (n x y : Nat) : Int := Lib.compareInt (lmN l n y) (lmN l n x)
theorem ltOf_is (l : Nat → Int) (n : Nat) : ltOf (cfN l n) = ltL (lmN l n) := by
  funext x y
  unfold ltOf cfN ltL Lib.compareInt
  rw [Bool.eq_iff_iff, decide_eq_true_iff, decide_eq_true_iff]
  split
  · constructor
    · intro _; assumption
    · intro _; omega
  · split
    · constructor
      · intro h; omega
      · intro h; omega
    · constructor
      · intro h; omega
      · intro h; omega
theorem lm_at {l : Nat → Int} {n i : Nat} (h : i < n) : lmN l n i = l i := by unfold lmN; rw [Nat.min_eq_left (by omega)]

set_option maxHeartbeats 2000000 in
theorem longer_is (A : Option Addr) (n c B : Nat) (l : Nat → Int) (w : World) (i j : Nat) (hi : i < n) (hj : j < n) (hp : IHas w A n l) (hb : w.cell? ⟨B, 0, none⟩ = some (.slice A n c)) :
    Calls Tryd.prog 64 #[.int .i64 (i : Int), .int .i64 (j : Int), .pointer (some ⟨B, 0, none⟩)] w fun e w' => e = .returned (.int .i64 (Lib.compareInt (l j) (l i))) ∧ ∃ q, w' = w.drewN q := by
  obtain ⟨b, off, rfl, hP⟩ := hp (by omega)
  have h1 := hP.v i hi
  have h2 := hP.v j hj
  have HC := Lib.hid (fun W => Tryd.cmp_Compare_int (l j) (l i) W)
  generalize Lib.compareInt (l j) (l i) = r at *
  generalize l i = x at *
  generalize l j = y at *
  clear hP hp
  go_enter Tryd.func64, Tryd.ntmps64
  go_wp2_with fail
  go_quiet ((go_at_call 65; exact Calls.quiet_of_same (HC.out _)))
  go_wp2
  go_ret
  exact ⟨rfl, _, rfl⟩

set_option maxHeartbeats 2000000 in
theorem stable_is (g cap n : Nat) (cf : Nat → Nat → Int) (enc : Nat → Value) (hO : OneCell enc) (f : Nat) (cb : Array Value) (d : Array Nat) (w : World) (hn : d.size = n) (h16 : n ≤ 16)
    (eg : ∀ args w, (callFunc f args).run Tryd.prog w = .ok (.enter f args) w) (hcmp : CmpReads Tryd.prog f cb enc cf g 0 d.size w) (hH : Holds enc w g 0 d) :
    Calls Tryd.prog 72 #[.slice (some ⟨g, 0, none⟩) n cap, .int .i64 n, .func (.func f) #[] cb] w fun e w' => e = .returned (.tuple #[]) ∧ ∃ m, w' = (putRow enc w g 0 (Sort.insertionSort (ltOf cf) d 0 n)).drewN m := by
  subst hn
  have hi := Any.insertionSortCmpFunc_one Tryd.laysIns enc hO cf f cb g 0 cap 0 d.size d w eg hcmp hH (Nat.zero_le _) (Nat.le_refl _) (by omega)
  have HI := Lib.hid (show Calls Tryd.prog 78 _ _ _ from hi)
  have hz : (d.size : Int) ≤ 16 := by omega
  clear hH hcmp hi
  go_enter Tryd.func72, Tryd.ntmps72
  go_wp2
  refine wp_loop_rounds 1 ?_
  rw [rounds_succ]
  go_wp2_with (go_at_call 78; refine HI.out.mono ?_; rintro e w1 ⟨rfl, m, rfl⟩)
  refine wp_loop_rounds 1 ?_
  rw [rounds_succ]
  go_wp2
  go_end0
  exact ⟨rfl, m, rfl⟩
end Go.Proofs.YtlikipihineppaaDoor
