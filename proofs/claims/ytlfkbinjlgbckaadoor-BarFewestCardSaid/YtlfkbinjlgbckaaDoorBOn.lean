/- The pieces of a bar, and how many bars a plan uses, in the document's own way; no statement is proved here. -/
import Derived.Test.YtlfkbinjlgbckaaDoorBRooms
namespace Go.Proofs.YtlfkbinjlgbckaaDoor
open Go.ChangeShapes Go.WideShapes Go.ChangeAt Go.RowKit

def onL (l q : Nat → Int) (b : Int) : Nat → List Int
  | 0 => []
  | k + 1 => if q k = b then onL l q b k ++ [l k] else onL l q b k
def valsI (L : List Int) : List Value := L.map (Value.int .i64)
theorem onL_le (l q : Nat → Int) (b : Int) : ∀ k, (onL l q b k).length ≤ k
  | 0 => Nat.le_refl _
  | k + 1 => by have := onL_le l q b k; rw [onL]; split <;> simp <;> omega
theorem valsI_ints (L : List Int) : valsI L = ints (fun i => L.getD i 0) L.length := by
  apply List.ext_getElem?
  intro i
  rcases Nat.lt_or_ge i L.length with h | h
  · rw [ints_get _ _ _ h]; simp [valsI, h]
  · rw [List.getElem?_eq_none (by simpa [valsI] using h), List.getElem?_eq_none (by rw [ints_length]; exact h)]

set_option maxHeartbeats 4000000 in
theorem on_any (A P : Option Addr) (n c d : Nat) (l q : Nat → Int) (b : Int) (w : World) (hn : n ≤ 100) (hp : IHas w A n l) (hq : IHas w P n q) :
    Calls Tryd.prog 54 #[.slice A n c, .slice P n d, .int .i64 b] w fun e w' => ∃ v, e = .returned v ∧ w'.ownsRow w.heap.size 3 1 v (onL l q b n).length (valsI (onL l q b n)) ∧ Below w.heap.size w w' := by
  have HP := Lib.hid hp
  have HQ := Lib.hid hq
  clear hp hq
  obtain ⟨i0, hi0, hz0, hz1, hz2⟩ := info_parts infoInt
  go_enter Tryd.func54, Tryd.ntmps54
  go_wp2
  go_loopw [7, 8, 9, 12] (fun v _ _ i wr => ∃ k : Nat, k ≤ n ∧ i = .int .i64 (k : Int) ∧ wr.ownsRow w.heap.size 3 1 v (onL l q b k).length (valsI (onL l q b k)) ∧ Below w.heap.size w wr) (fun _ _ _ i _ => n - (intOf i).toNat)
  case atStart => exact ⟨0, Nat.zero_le _, rfl, World.ownsRow_nil _ _ _ _, Below.refl _ _⟩
  case round =>
    obtain ⟨k, hk, rfl, hown, hbr⟩ := hrel
    by_cases hlt : k < n
    · obtain ⟨b1, o1, rfl, hP⟩ := (HP.out.later hbr) (by omega)
      obtain ⟨b2, o2, rfl, hQ⟩ := (HQ.out.later hbr) (by omega)
      have hx := hP.v k hlt
      have hy := hQ.v k hlt
      have hle := onL_le l q b k
      have HF := Lib.hid (show onL l q b (k + 1) = if q k = b then onL l q b k ++ [l k] else onL l q b k from rfl)
      have HO := Lib.hid hown
      have HB := Lib.hid hbr
      clear hP hQ hown hbr
      generalize onL l q b k = L at *
      generalize l k = x at *
      generalize q k = y at *
      by_cases he : y = b
      · subst he
        rw [if_pos rfl] at HF
        go_wp2_with (at_builtin; go_loud (refine wpList_append_own _ rfl _ _ 24 rfl w.heap.size 3 i0 (.int .i64 0) 1 8 Tryd.underlying24 hi0 hz0 hz1 hz2 rfl (by decide) _ _ _ rfl (HO.out.alloc _) ⟨wr.heap.size, 0, none⟩ 1 1 [.int .i64 x] rfl rfl ?c1 ?c2 ?c3 ?c4 ?c5 ?_))
        case c1 =>
          intro j u hj
          match j, hj with
          | 0, hj => simp at hj; subst hj; simp [Addr.add]
        case c2 => intro u hu; simp at hu; subst hu; rfl
        case c3 => unfold maxLen; omega
        case c4 => omega
        case c5 => have := HB.out.size; simp; omega
        intro v' w3 hown' hgrow _
        have hs := HB.out.size
        have hb3 := (HB.out.alloc HB.out.size (.cells #[.int .i64 x] 3)).grown hgrow (by simp; omega) (fun j hj => (HO.out.lt j hj).1)
        have R := Lib.hid (And.intro hown' hb3)
        clear hown' hgrow hb3
        go_wp2
        go_roundw
        case rel => exact ⟨k + 1, by omega, by go_num, by rw [HF.out, List.length_append]; unfold valsI; rw [List.map_append]; exact R.out.1, R.out.2⟩
        case measure => simp [intOf]; omega
      · have he2 : (y == b) = false := by simpa using he
        rw [if_neg he] at HF
        go_wp2
        go_roundw
        case rel => exact ⟨k + 1, by omega, by go_num, by rw [HF.out]; exact HO.out, HB.out⟩
        case measure => simp [intOf]; omega
    · obtain rfl : k = n := by omega
      go_wp2
      go_ret
      exact ⟨_, rfl, hown, hbr⟩

/-- How many bars a plan uses. -/
def usedF (q : Nat → Int) : Nat → Int
  | 0 => 0
  | k + 1 => max (usedF q k) (q k + 1)
theorem usedF_ord {q : Nat → Int} : ∀ {n : Nat}, (∀ k, k < n → 0 ≤ q k ∧ q k ≤ (cntR q k : Int)) → usedF q n = (cntR q n : Int)
  | 0, _ => rfl
  | n + 1, h => by
    have ih := usedF_ord (n := n) (fun k hk => h k (by omega))
    obtain ⟨h0, h1⟩ := h n (by omega)
    rw [usedF, ih, cntR]
    by_cases e : q n = (cntR q n : Int)
    · rw [if_pos e, e]; omega
    · rw [if_neg e]; omega
set_option maxHeartbeats 2000000 in
theorem used_any (P : Option Addr) (n d : Nat) (q : Nat → Int) (w : World) (hn : n ≤ 100) (hq : IHas w P n q) (hr : ∀ k, k < n → 0 ≤ q k ∧ q k ≤ 1000) :
    Calls Tryd.prog 53 #[.slice P n d] w fun e w' => e = .returned (.int .i64 (usedF q n)) ∧ Below w.heap.size w w' := by
  have HQ := Lib.hid hq
  have HR := Lib.hid hr
  have hu : ∀ k, k ≤ n → 0 ≤ usedF q k ∧ usedF q k ≤ 1001 := by
    intro k
    induction k with
    | zero => intro _; exact ⟨Int.le_refl _, by show (0 : Int) ≤ 1001; decide⟩
    | succ k ih => intro hk; have := ih (by omega); have := hr k (by omega); rw [usedF]; omega
  have HU := Lib.hid hu
  clear hq hr hu
  go_enter Tryd.func53, Tryd.ntmps53
  go_wp2
  go_loopw [3, 5, 8] (fun s _ i wr => ∃ k : Nat, k ≤ n ∧ i = .int .i64 (k : Int) ∧ s = .int .i64 (usedF q k) ∧ wr = w) (fun _ _ i _ => n - (intOf i).toNat)
  case atStart => exact ⟨0, Nat.zero_le _, rfl, rfl, rfl⟩
  case round =>
    obtain ⟨k, hk, rfl, rfl, rfl⟩ := hrel
    by_cases hlt : k < n
    · obtain ⟨b2, o2, rfl, hQ⟩ := HQ.out (by omega)
      have hy := hQ.v k hlt
      obtain ⟨y0, y1⟩ := HR.out k hlt
      obtain ⟨s0, s1⟩ := HU.out k hk
      have HS := Lib.hid (show usedF q (k + 1) = max (usedF q k) (q k + 1) from rfl)
      clear hQ
      generalize usedF q k = S at *
      generalize q k = y at *
      go_wp2
      go_roundw
      case rel => exact ⟨k + 1, by omega, by go_num, by rw [HS.out]; first | done | rfl | go_num | (congr 1; omega), by first | rfl | trivial⟩
      case measure => simp [intOf]; omega
    · obtain rfl : k = n := by omega
      go_wp2
      go_ret
      exact ⟨rfl, Below.refl _ _⟩
end Go.Proofs.YtlfkbinjlgbckaaDoor
