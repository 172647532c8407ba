/- The law BarFirst, walked; no statement is proved here. -/
import Derived.Test.YtlfkbinjlgbckaaDoorBFFS
import Derived.Test.YtlfkbinjlgbckaaDoorBAwake
import Derived.Test.YtlfkbinjlgbckaaDoorLawBarBounds
namespace Go.Proofs.YtlfkbinjlgbckaaDoor
open Go.ChangeShapes Go.WideShapes Go.ChangeAt Go.RowKit Go.Shelf

theorem FirstFit_any (B K : Int) (A : Option Addr) (n c : Nat) (l : Nat → Int) (w : World) (hn : n ≤ c) (hc : c ≤ 9223372036854775807) (hp : IHas w A n l) :
    Calls Tryd.prog 11 #[.agg #[.int .i64 B, .int .i64 K], .slice A n c] w (RetL w (nfN B K l n) (numF (ffP B K l n)) (plE B K l n)) := by
  unfold nfN
  by_cases h : plE B K l n = 0
  · rw [if_pos h, h]; exact FirstFit_go B K A n c l w hn hc hp h
  · rw [if_neg h]
    exact (FirstFit_no B K A n c l w hn hc hp h).mono fun e w' ⟨he, hb⟩ => ⟨none, 0, he, Nat.le_refl _, by omega, fun h0 => absurd h0 (Nat.lt_irrefl 0), hb⟩
theorem first_right {B K : Int} {l : Nat → Int} {n : Nat} (h : plE B K l n = 0) : okR B K l (numF (ffP B K l n)) n n = true := by
  obtain ⟨hck, hB, hK, h16, hl⟩ := pl_is h
  have F := ffQ_is (R := B + K) (z := fun k => l k + K) (o := ordF (lmN l n) n) (n := n) (fun i hi => by have := hl i hi; show l i + K ≤ B + K; omega) (fun j hj => ordF_lt hj) (fun j m hj hm e => ordF_inj hj hm e) n (Nat.le_refl _)
  exact ff_right hck (fun i hi => ordF_all hi) F

end Go.Proofs.YtlfkbinjlgbckaaDoor
