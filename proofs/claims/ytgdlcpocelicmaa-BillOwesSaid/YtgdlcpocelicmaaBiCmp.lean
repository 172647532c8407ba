/- Who gets a penny first: the comparison and the sort by it, by contract; no statement is proved here. -/
import Derived.Test.YtgdlcpocelicmaaBiShM
import Derived.Test.YtgdlcpocelicmaaBiOwn
import Derived.Test.YtgdlcpocelicmaaShelf
import Derived.Lib.OwnBridge
import Derived.Shelf.SlSortCmp.Kit1
namespace Go.Proofs.Ytgdlcpocelicmaa
open Go.ChangeShapes Go.WideShapes Go.ChangeAt Go.RowKit Go.Shelf Go.Sort

/-- The worlds in which something was drawn, and nothing else. -/
def Drew9 (W : World) : Type := { w : World // ∃ q, w = W.drewN q }
instance (W : World) : Nonempty (Drew9 W) := ⟨⟨W, 0, rfl⟩⟩
theorem Drew9.cell {W : World} (x : Drew9 W) (b : Nat) (o : Nat) : x.val.cell? ⟨b, o, none⟩ = W.cell? ⟨b, o, none⟩ := by
  obtain ⟨q, h⟩ := x.property
  rw [h]; rfl
theorem Drew9.call {P : Program} {f : FuncId} {args : Array Value} {v : Value} {W : World} (x : Drew9 W)
    (h : Calls P f args x.val fun e w' => e = .returned v ∧ w' = x.val) : Calls P f args x.val fun e w'' => e = .returned v ∧ ∃ y : Drew9 W, w'' = y.val :=
  h.mono fun _ _ ⟨he, hb⟩ => ⟨he, x, hb⟩
/-- A region whose first n operations only read or call what changes nothing, in whatever order, and whose others follow in the text's own. -/
theorem wp_region_drew9 {P : Program} {id : Nat} {Q : Exit → Act → World → Prop} {a : Act} {W : World} {l : List Oper} (n : Nat) (hm : P.follows .mixedOrders = true) (hB : Region.lexTailB .any l.toArray n = true)
    (h : (∀ (x : Drew9 W) (b o : Nat), x.val.cell? ⟨b, o, none⟩ = W.cell? ⟨b, o, none⟩) →
      wpQuiet P l.toArray (fun w' => ∃ x : Drew9 W, w' = x.val) (fun a' => ∀ q, wpList P l.toArray Q (l.drop n) a' (W.drewN q)) (l.take n) a) : (Code.region id l.toArray true).wp P Q a W := by
  have h' := h fun x b o => x.cell b o
  simp only [Region.lexTailB, Bool.and_eq_true, decide_eq_true_eq] at hB
  obtain ⟨⟨⟨⟨hsel, hn⟩, hs⟩, hc⟩, hlex⟩ := hB
  have hn' : n < l.length := by simpa using hn
  have htl : (l.take n).length = n := by simp; omega
  have hdl : (l.drop n).length = l.toArray.size - n := by simp
  have inv0 : HeadInv .any l.toArray n (Array.replicate l.toArray.size false) :=
    ⟨by simp, fun j oj _ hl => (by rw [getD_replicate_false] at hl; cases hl), fun t _ ht => getD_in (by simpa using ht) (getD_replicate_false _ _)⟩
  have H := headQ_lex (md := .any) (g := l.toArray.size - n) hsel hs hc hn (l.take n) 0 _ a (fun j hj => by
    rw [htl] at hj
    simp [hj]) (by simpa using htl) inv0 (by rw [htl]; exact hlex) h'
  refine wp_region_any hm ?_
  have := wpAny_of_headQ (C := fun w' => ∃ x : Drew9 W, w' = x.val) (Q := Q) (g := l.toArray.size - n) (fun listed a' w' hw' hL => by
    obtain ⟨⟨_, q, rfl⟩, rfl⟩ := hw'
    have := wpAny_of_seq (md := .any) (Q' := Q) (l.drop n) n listed a' (W.drewN q) (fun j => by simp [List.getElem?_drop]) (by rw [hdl]; exact hL.1) (hL.2 q)
    rwa [hdl] at this) _ _ _ { W with drawn := W.drawn + 1 } ⟨⟨{ W with drawn := W.drawn + 1 }, 1, rfl⟩, rfl⟩ H
  rw [htl, show n + (l.toArray.size - n) = l.toArray.size by omega] at this
  exact this

theorem or_is9 (x y r : Int) (g : Nat) (w : World) (hg : w.heap[g]? = some (.cells #[.int .i64 x, .int .i64 y] 3)) (hr : (if x = 0 then y else x) = r) :
    Calls Try.prog 73 #[.slice (some ⟨g, 0, none⟩) 2 2] w fun e w' => e = .returned (.int .i64 r) ∧ w' = w := by
  obtain ⟨c0, c1, _, _⟩ := cell2_of hg
  have l0 := lt_of_heap hg
  clear hg
  go_enter Try.func73, Try.ntmps73
  go_wp2
  go_loopw [5, 8] (fun _ i wr => ∃ k : Nat, k ≤ 2 ∧ i = .int .i64 (k : Int) ∧ (0 < k → x = 0) ∧ (1 < k → y = 0) ∧ wr = w) (fun _ i _ => 2 - (intOf i).toNat)
  case atStart => exact ⟨0, by omega, rfl, by omega, by omega, rfl⟩
  case round =>
    obtain ⟨k, hk, rfl, hx, hy, rfl⟩ := hrel
    rcases (show k = 0 ∨ k = 1 ∨ k = 2 by omega) with rfl | rfl | rfl
    · by_cases h : x = 0
      · subst h
        rw [if_pos rfl] at hr
        go_wp2
        go_roundw
        case rel => exact ⟨1, by omega, by go_num, fun _ => by trivial, by omega, by trivial⟩
        case measure => simp [intOf]
      · rw [if_neg h] at hr
        subst hr
        have h1 : (x == 0) = false := by simpa using h
        go_wp2
        go_ret
        exact ⟨rfl, rfl⟩
    · obtain rfl := hx (by omega)
      rw [if_pos rfl] at hr
      subst hr
      by_cases h : y = 0
      · subst h
        go_wp2
        go_roundw
        case rel => exact ⟨2, by omega, by go_num, fun _ => by trivial, fun _ => by trivial, by trivial⟩
        case measure => simp [intOf]
      · have h1 : (y == 0) = false := by simpa using h
        go_wp2
        go_ret
        exact ⟨rfl, rfl⟩
    · obtain rfl := hx (by omega)
      obtain rfl := hy (by omega)
      rw [if_pos rfl] at hr
      subst hr
      go_wp2
      go_ret
      exact ⟨rfl, rfl⟩

theorem cmpI9 (a b : Int) : Lib.compareInt a b = if a < b then -1 else if a = b then 0 else 1 := by
  unfold Lib.compareInt
  by_cases h1 : a < b
  · simp [h1]
  · by_cases h2 : a = b
    · subst h2; simp
    · simp [h1, h2] <;> omega
theorem isNaN9 (x : Int) (w : World) : Calls Try.prog 87 #[.int .i64 x] w fun e w' => e = .returned (.bool false) ∧ w' = w := by
  have h : (x != x) = false := by simp
  go_enter Try.func87, Try.ntmps87
  go_wp2
  go_ret
  exact ⟨bool_of (by simp), rfl⟩
theorem cmpC9 (x y : Int) (w : World) : Calls Try.prog 67 #[.int .i64 x, .int .i64 y] w fun e w' => e = .returned (.int .i64 (Lib.compareInt x y)) ∧ w' = w := by
  have HN := Lib.hid (fun x w => isNaN9 x w)
  rw [cmpI9]
  by_cases h1 : x < y
  · rw [if_pos h1]
    go_enter Try.func67, Try.ntmps67
    go_wp2_with (go_at_call 87; (refine (HN.out _ _).mono ?_); rintro e w1 ⟨rfl, rfl⟩)
    go_ret
    exact ⟨rfl, rfl⟩
  · by_cases h2 : x = y
    · rw [if_neg h1, if_pos h2]
      have h3 : ¬ y < x := by omega
      clear h2
      go_enter Try.func67, Try.ntmps67
      go_wp2_with (go_at_call 87; (refine (HN.out _ _).mono ?_); rintro e w1 ⟨rfl, rfl⟩)
      go_ret
      exact ⟨rfl, rfl⟩
    · rw [if_neg h1, if_neg h2]
      have h3 : y < x := by omega
      clear h2
      go_enter Try.func67, Try.ntmps67
      go_wp2_with (go_at_call 87; (refine (HN.out _ _).mono ?_); rintro e w1 ⟨rfl, rfl⟩)
      go_ret
      exact ⟨rfl, rfl⟩
def cfS (r : Nat → Int) (i j : Nat) : Int := if Lib.compareInt (r j) (r i) = 0 then Lib.compareInt (i : Int) (j : Int) else Lib.compareInt (r j) (r i)
theorem cfS_lt (r : Nat → Int) (i j : Nat) : decide (cfS r i j < 0) = befS r i j := by
  unfold cfS befS
  rw [cmpI9, cmpI9, Bool.eq_iff_iff]
  simp only [Bool.or_eq_true, Bool.and_eq_true, decide_eq_true_iff]
  by_cases h1 : r j < r i
  · simp [h1]
  · by_cases h2 : r j = r i
    · simp [h2]
      by_cases h3 : i < j
      · simp [h3]
      · by_cases h4 : i = j
        · simp [h4]
        · simp [h3]
          split <;> omega
    · simp [h1, h2]
      intro h; exact absurd h.symm h2

set_option maxHeartbeats 2000000 in
theorem compare_is9 (B : Nat) (A : Option Addr) (n c : Nat) (r : Nat → Int) (w : World) (i j : Nat) (hi : i < n) (hj : j < n) (hp : IHas w A n r) (hb1 : w.cell? ⟨B, 1, none⟩ = some (.slice A n c)) :
    Calls Try.prog 47 #[.pointer (some ⟨B, 0, none⟩), .int .i64 (i : Int), .int .i64 (j : Int)] w fun e w' => e = .returned (.int .i64 (cfS r i j)) ∧ ∃ q os', w' = grow (w.drewN q) os' := by
  obtain ⟨b, off, rfl, hP⟩ := hp (by omega)
  have h1 := hP.v i hi
  have h2 := hP.v j hj
  have h3 := hP.lt
  have C1 := Lib.hid (fun W => cmpC9 (r j) (r i) W)
  have C2 := Lib.hid (fun W => cmpC9 (i : Int) (j : Int) W)
  have hv : (if Lib.compareInt (r j) (r i) = 0 then Lib.compareInt (i : Int) (j : Int) else Lib.compareInt (r j) (r i)) = cfS r i j := rfl
  generalize Lib.compareInt (r j) (r i) = S at *
  generalize Lib.compareInt (i : Int) (j : Int) = T at *
  generalize cfS r i j = V at *
  generalize r i = x at *
  generalize r j = y at *
  have HV := Lib.hid hv
  clear hP hp hv
  go_enter Try.func47, Try.ntmps47
  go_wp2
  refine wp_region_drew9 18 (by kernel_rfl) (by kernel_rfl) (fun hcell => ?_)
  simp only [List.take_succ_cons, List.take_zero, List.drop_succ_cons, List.drop_zero]
  repeat (go_big_quiet_step ((first
    | with_reducible exact Drew9.call _ (C1.out _)
    | with_reducible exact Drew9.call _ (C2.out _))))
  refine wpQuiet_nil ?_
  intro q
  clear hcell
  go_wp2_with (go_at_call 73; refine (or_is9 S T _ _ _ (new_at _ _ _ rfl) HV.out).mono ?_; rintro e w5 ⟨rfl, rfl⟩)
  go_ret
  exact ⟨rfl, q, #[.cells #[.int .i64 S, .int .i64 T] 3], by simp [grow, World.alloc]⟩
end Go.Proofs.Ytgdlcpocelicmaa
