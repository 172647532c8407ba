/- Statements, by contract (the document's side); no statement is proved here. -/
import Derived.Test.YtcgoggkjlhpnnabBiRun
import Derived.Test.YtcgoggkjlhpnnabBiBalance
import Derived.Test.YtcgoggkjlhpnnabBiRefOf
namespace Go.Proofs.Ytcgoggkjlhpnnab
open Go.ChangeShapes Go.WideShapes Go.ChangeAt Go.RowKit

theorem balR_mine {p : Nat → En} {n : Nat} (h : ∀ k, k < n → 0 ≤ (p k).d) (s : ByteArray) (d : Int) : balR p s (d - 1) n = balF p s 0 d n :=
  sumTo_congr fun k hk => by rw [ofE_mine (h k hk), show d - 1 + 1 = d by omega]

theorem EHas9.other {W : World} {A : Option Addr} {n : Nat} {p : Nat → En} (h : EHas9 W A n p) {B o : Nat} (hB : ∀ g o s, A = some ⟨g, o, s⟩ → g ≠ B) (v : Value) : EHas9 (W.setCell ⟨B, o, none⟩ v) A n p := fun hn => by
  obtain ⟨b, off, rfl, hP⟩ := h hn
  have hne := hB b off none rfl
  have key : ∀ j x, W.cell? ⟨b, j, none⟩ = some x → (W.setCell ⟨B, o, none⟩ v).cell? ⟨b, j, none⟩ = some x := fun j x hx => (World.cell?_of_block (w := W) (a := ⟨b, j, none⟩) (Below.heap_setCell _ _ _ _ hne)).trans hx
  exact ⟨b, off, rfl, by have := hP.lt; simpa [World.setCell] using this, fun k hk => key _ _ (hP.x k hk), fun k hk => key _ _ (hP.y k hk), fun k hk => key _ _ (hP.z k hk)⟩
end Go.Proofs.Ytcgoggkjlhpnnab
