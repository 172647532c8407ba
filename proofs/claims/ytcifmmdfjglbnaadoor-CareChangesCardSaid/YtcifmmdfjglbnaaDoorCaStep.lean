/- The steps of cases (the code's side), by contract; no statement is proved here. -/
import Derived.Test.YtcifmmdfjglbnaaDoorCaNames
namespace Go.Proofs.YtcifmmdfjglbnaaDoor
open Go.ChangeShapes Go.WideShapes Go.ChangeAt Go.RowKit

/-- The words of steps. -/
def wdS : Nat → ByteArray
  | 0 => ⟨#[115, 101, 101, 110]⟩
  | 1 => ⟨#[118, 101, 116]⟩
  | 2 => ⟨#[116, 114, 101, 97, 116]⟩
  | 3 => ⟨#[115, 111, 117, 110, 100]⟩
  | 4 => ⟨#[108, 97, 109, 101]⟩
  | _ => ⟨#[99, 108, 111, 115, 101]⟩
/-- The words lie in their variable. -/
structure EnvW (w : World) : Prop where
  rows : ∀ k, k < 6 → w.cell? ⟨0, k, none⟩ = some (.string (wdS k))
  low : 0 < w.heap.size
theorem EnvW.later {w w' : World} (h : EnvW w) (hb : Below w.heap.size w w') : EnvW w' :=
  ⟨fun k hk => (hb.cell (p := ⟨0, k, none⟩) h.low).trans (h.rows k hk), Nat.lt_of_lt_of_le h.low hb.size⟩
/-- The steps that may follow a state: its number of steps, the last one, how many are lame. -/
def nxF (ct la lm : Int) : List Nat :=
  if ct = 0 then [0] else if 100 ≤ ct then [] else if 2 ≤ lm then [1] else if la = 0 ∨ la = 4 then [1, 2, 5] else if la = 1 then [2] else if la = 2 then [3, 4] else if la = 3 then [5] else []
def ilq (l : List Nat) (k : Nat) : Nat := (l[k]?).getD 0
theorem nxF_lt {ct la lm : Int} : ∀ x ∈ nxF ct la lm, x < 6 := by
  intro x hx
  unfold nxF at hx
  repeat' split at hx
  all_goals (first | (simp at hx; done) | (simp at hx; omega))
theorem nxF_len (ct la lm : Int) : (nxF ct la lm).length ≤ 3 := by
  unfold nxF
  repeat' split
  all_goals simp
theorem ilq_mem {l : List Nat} {k : Nat} (h : k < l.length) : ilq l k ∈ l := by
  unfold ilq
  rw [List.getElem?_eq_getElem h]
  exact List.getElem_mem h
def RetNx (W : World) (l : List Nat) (e : Ending) (w' : World) : Prop :=
  ∃ A c, e = .returned (.slice A l.length c) ∧ l.length ≤ c ∧ c ≤ 9223372036854775807 ∧ IHas w' A l.length (fun k => ((ilq l k : Nat) : Int)) ∧ Below W.heap.size W w'
theorem ints_new6 (w : World) (l : List Nat) (xs : Array Value) (hx : ∀ k, k < l.length → xs[k]? = some (.int .i64 ((ilq l k : Nat) : Int))) : IHas (w.alloc (.cells xs 3)) (some ⟨w.heap.size, 0, none⟩) l.length (fun k => ((ilq l k : Nat) : Int)) := by
  have hh := new_at w (.cells xs 3) _ rfl
  refine fun _ => ⟨_, 0, rfl, lt_of_heap hh, fun k hk => ?_⟩
  simp only [World.cell?, hh]
  simpa using hx k hk

set_option maxHeartbeats 8000000 in
set_option maxRecDepth 100000 in
theorem next_any (ct la lm : Int) (w : World) :
    Calls Tryd.prog 90 #[.agg #[.int .i64 ct, .int .i64 la, .int .i64 lm]] w (RetNx w (nxF ct la lm)) := by
  obtain ⟨W0, hW0⟩ : ∃ W0, w.alloc (.cells #[.int .i64 ct, .int .i64 la, .int .i64 lm] 96) = W0 := ⟨_, rfl⟩
  obtain ⟨c0, c1, c2, l0⟩ := cell3_6 (show W0.heap[w.heap.size]? = some (.cells #[.int .i64 ct, .int .i64 la, .int .i64 lm] 96) from by rw [← hW0]; exact new_at w _ _ rfl)
  have HB0 := Lib.hid (show Below w.heap.size w W0 from by rw [← hW0]; exact (Below.refl _ _).alloc (Nat.le_refl _) _)
  have HAL := Lib.hid (show ∀ o, Below W0.heap.size W0 (W0.alloc o) from fun o => (Below.refl _ _).alloc (Nat.le_refl _) _)
  by_cases h1 : ct = 0
  · have e1 : (ct == 0) = true := by simpa using h1
    have HN := Lib.hid (show nxF ct la lm = [0] from by unfold nxF; rw [if_pos h1])
    have HI := Lib.hid (ints_new6 W0 [0] #[.int .i64 0] (by intro k hk; have : k < 1 := hk; rcases (show k = 0 by omega) with rfl <;> rfl))
    rw [HN.out]
    clear h1
    go_enter Tryd.func90, Tryd.ntmps90
    go_wp2
    go_ret
    exact ⟨_, 1, rfl, Nat.le_refl _, by omega, HI.out, bthen HB0.out (HAL.out _)⟩
  have e1 : (ct == 0) = false := by simpa using h1
  by_cases h2 : 100 ≤ ct
  · have HN := Lib.hid (show nxF ct la lm = [] from by unfold nxF; rw [if_neg h1, if_pos h2])
    rw [HN.out]
    clear h1
    go_enter Tryd.func90, Tryd.ntmps90
    go_wp2
    go_ret
    exact ⟨none, 0, rfl, Nat.le_refl _, by omega, fun h => absurd h (by simp), HB0.out⟩
  by_cases h3 : 2 ≤ lm
  · have HN := Lib.hid (show nxF ct la lm = [1] from by unfold nxF; rw [if_neg h1, if_neg h2, if_pos h3])
    have HI := Lib.hid (ints_new6 W0 [1] #[.int .i64 1] (by intro k hk; have : k < 1 := hk; rcases (show k = 0 by omega) with rfl <;> rfl))
    rw [HN.out]
    clear h1
    go_enter Tryd.func90, Tryd.ntmps90
    go_wp2
    go_ret
    exact ⟨_, 1, rfl, Nat.le_refl _, by omega, HI.out, bthen HB0.out (HAL.out _)⟩
  by_cases h4 : la = 0
  · have e4 : (la == 0) = true := by simpa using h4
    have HN := Lib.hid (show nxF ct la lm = [1, 2, 5] from by unfold nxF; rw [if_neg h1, if_neg h2, if_neg h3, if_pos (.inl h4)])
    have HI := Lib.hid (ints_new6 W0 [1, 2, 5] #[.int .i64 1, .int .i64 2, .int .i64 5] (by intro k hk; have : k < 3 := hk; rcases (show k = 0 ∨ k = 1 ∨ k = 2 by omega) with rfl | rfl | rfl <;> rfl))
    rw [HN.out]
    clear h1 h4
    go_enter Tryd.func90, Tryd.ntmps90
    go_wp2
    go_ret
    exact ⟨_, 3, rfl, Nat.le_refl _, by omega, HI.out, bthen HB0.out (HAL.out _)⟩
  have e4 : (la == 0) = false := by simpa using h4
  by_cases h5 : la = 4
  · have e5 : (la == 4) = true := by simpa using h5
    have HN := Lib.hid (show nxF ct la lm = [1, 2, 5] from by unfold nxF; rw [if_neg h1, if_neg h2, if_neg h3, if_pos (.inr h5)])
    have HI := Lib.hid (ints_new6 W0 [1, 2, 5] #[.int .i64 1, .int .i64 2, .int .i64 5] (by intro k hk; have : k < 3 := hk; rcases (show k = 0 ∨ k = 1 ∨ k = 2 by omega) with rfl | rfl | rfl <;> rfl))
    rw [HN.out]
    clear h1 h5
    go_enter Tryd.func90, Tryd.ntmps90
    go_wp2
    go_ret
    exact ⟨_, 3, rfl, Nat.le_refl _, by omega, HI.out, bthen HB0.out (HAL.out _)⟩
  have e5 : (la == 4) = false := by simpa using h5
  by_cases h6 : la = 1
  · have e6 : (la == 1) = true := by simpa using h6
    have HN := Lib.hid (show nxF ct la lm = [2] from by unfold nxF; rw [if_neg h1, if_neg h2, if_neg h3, if_neg (by omega), if_pos h6])
    have HI := Lib.hid (ints_new6 W0 [2] #[.int .i64 2] (by intro k hk; have : k < 1 := hk; rcases (show k = 0 by omega) with rfl <;> rfl))
    rw [HN.out]
    clear h1 h6
    go_enter Tryd.func90, Tryd.ntmps90
    go_wp2
    go_ret
    exact ⟨_, 1, rfl, Nat.le_refl _, by omega, HI.out, bthen HB0.out (HAL.out _)⟩
  have e6 : (la == 1) = false := by simpa using h6
  by_cases h7 : la = 2
  · have e7 : (la == 2) = true := by simpa using h7
    have HN := Lib.hid (show nxF ct la lm = [3, 4] from by unfold nxF; rw [if_neg h1, if_neg h2, if_neg h3, if_neg (by omega), if_neg h6, if_pos h7])
    have HI := Lib.hid (ints_new6 W0 [3, 4] #[.int .i64 3, .int .i64 4] (by intro k hk; have : k < 2 := hk; rcases (show k = 0 ∨ k = 1 by omega) with rfl | rfl <;> rfl))
    rw [HN.out]
    clear h1 h6 h7
    go_enter Tryd.func90, Tryd.ntmps90
    go_wp2
    go_ret
    exact ⟨_, 2, rfl, Nat.le_refl _, by omega, HI.out, bthen HB0.out (HAL.out _)⟩
  have e7 : (la == 2) = false := by simpa using h7
  by_cases h8 : la = 3
  · have e8 : (la == 3) = true := by simpa using h8
    have HN := Lib.hid (show nxF ct la lm = [5] from by unfold nxF; rw [if_neg h1, if_neg h2, if_neg h3, if_neg (by omega), if_neg h6, if_neg h7, if_pos h8])
    have HI := Lib.hid (ints_new6 W0 [5] #[.int .i64 5] (by intro k hk; have : k < 1 := hk; rcases (show k = 0 by omega) with rfl <;> rfl))
    rw [HN.out]
    clear h1 h6 h7 h8
    go_enter Tryd.func90, Tryd.ntmps90
    go_wp2
    go_ret
    exact ⟨_, 1, rfl, Nat.le_refl _, by omega, HI.out, bthen HB0.out (HAL.out _)⟩
  have e8 : (la == 3) = false := by simpa using h8
  have HN := Lib.hid (show nxF ct la lm = [] from by unfold nxF; rw [if_neg h1, if_neg h2, if_neg h3, if_neg (by omega), if_neg h6, if_neg h7, if_neg h8])
  rw [HN.out]
  clear h1 h6 h7 h8
  go_enter Tryd.func90, Tryd.ntmps90
  go_wp2
  go_ret
  exact ⟨none, 0, rfl, Nat.le_refl _, by omega, fun h => absurd h (by simp), HB0.out⟩

/-- How many are lame, one step on. -/
def lmF (lm : Int) (s : Nat) : Int := if s = 1 then 0 else if s = 4 then lm + 1 else lm
set_option maxHeartbeats 8000000 in
set_option maxRecDepth 100000 in
theorem with_any (ct la lm : Int) (s : Nat) (w : World) (hc : 0 ≤ ct ∧ ct ≤ 1000) (hl : 0 ≤ lm ∧ lm ≤ 1000) :
    Calls Tryd.prog 103 #[.agg #[.int .i64 ct, .int .i64 la, .int .i64 lm], .int .i64 (s : Int)] w fun e w' => e = .returned (.agg #[.int .i64 (ct + 1), .int .i64 (s : Int), .int .i64 (lmF lm s)]) ∧ Below w.heap.size w w' := by
  obtain ⟨c1, c2⟩ := hc
  obtain ⟨l1, l2⟩ := hl
  have HB0 := Lib.hid (show Below w.heap.size w ((w.alloc (.cells #[.int .i64 ct, .int .i64 la, .int .i64 lm] 96)).alloc (.cells #[.int .i64 0, .int .i64 0, .int .i64 0] 96)) from ((Below.refl _ _).alloc (Nat.le_refl _) _).alloc (by simp) _)
  by_cases h1 : s = 1
  · have HL := Lib.hid (show lmF lm s = 0 from by unfold lmF; rw [if_pos h1])
    have e1 : ((s : Int) == 1) = true := by rw [h1]; rfl
    clear h1
    go_enter Tryd.func103, Tryd.ntmps103
    go_wp2
    refine bodyPost_ret (v := .agg #[.int .i64 (ct + 1), .int .i64 (s : Int), .int .i64 0]) (by simp [results, Tryd.results103, go_sem]) rfl ⟨by rw [HL.out], ?_⟩
    exact ((Below.refl _ _).alloc (Nat.le_refl _) _).alloc (by simp) _
  · have e1 : ((s : Int) == 1) = false := by simp; omega
    by_cases h4 : s = 4
    · have HL := Lib.hid (show lmF lm s = lm + 1 from by unfold lmF; rw [if_neg h1, if_pos h4])
      have e4 : ((s : Int) == 4) = true := by rw [h4]; rfl
      clear h1 h4
      go_enter Tryd.func103, Tryd.ntmps103
      go_wp2
      refine bodyPost_ret (v := .agg #[.int .i64 (ct + 1), .int .i64 (s : Int), .int .i64 (lm + 1)]) (by simp [results, Tryd.results103, go_sem]) rfl ⟨by rw [HL.out], ?_⟩
      exact ((Below.refl _ _).alloc (Nat.le_refl _) _).alloc (by simp) _
    · have HL := Lib.hid (show lmF lm s = lm from by unfold lmF; rw [if_neg h1, if_neg h4])
      have e4 : ((s : Int) == 4) = false := by simp; omega
      clear h1 h4
      go_enter Tryd.func103, Tryd.ntmps103
      go_wp2
      refine bodyPost_ret (v := .agg #[.int .i64 (ct + 1), .int .i64 (s : Int), .int .i64 lm]) (by simp [results, Tryd.results103, go_sem]) rfl ⟨by rw [HL.out], ?_⟩
      exact ((Below.refl _ _).alloc (Nat.le_refl _) _).alloc (by simp) _
end Go.Proofs.YtcifmmdfjglbnaaDoor
