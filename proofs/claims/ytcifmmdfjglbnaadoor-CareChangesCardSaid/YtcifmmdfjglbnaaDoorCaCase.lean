/- Cases are read step by step (the code's side), by contract; no statement is proved here. -/
import Derived.Test.YtcifmmdfjglbnaaDoorCaStep
namespace Go.Proofs.YtcifmmdfjglbnaaDoor
open Go.ChangeShapes Go.WideShapes Go.ChangeAt Go.RowKit

theorem str_eq6 {a b : ByteArray} (h : a = b) : (a.toList == b.toList) = true := by subst h; simp
theorem str_ne6 {a b : ByteArray} (h : a ≠ b) : (a.toList == b.toList) = false := by
  rw [ByteArray.toList_eq, ByteArray.toList_eq]
  exact beq_eq_false_iff_ne.2 (fun e => h (ByteArray.ext (Array.toList_inj.1 e)))
/-- The first number below n of which f holds, -1 if there is none. -/
def ixF (f : Nat → Bool) : Nat → Int
  | 0 => -1
  | k + 1 => if ixF f k = -1 then (if f k then (k : Int) else -1) else ixF f k
theorem ixF_none {f : Nat → Bool} : ∀ {n : Nat}, (∀ k, k < n → f k = false) → ixF f n = -1
  | 0, _ => rfl
  | n + 1, h => by
    have h1 := ixF_none (f := f) (n := n) (fun k hk => h k (by omega))
    simp [ixF, h1, h n (by omega)]
theorem ixF_at {f : Nat → Bool} {k : Nat} (h : ∀ j, j < k → f j = false) (hk : f k = true) : ∀ {n : Nat}, k < n → ixF f n = (k : Int)
  | 0, h0 => by omega
  | n + 1, h0 => by
    by_cases e : n = k
    · subst e
      simp [ixF, ixF_none h, hk]
    · have h1 := ixF_at (f := f) h hk (n := n) (by omega)
      have h2 : ¬ (k : Int) = -1 := by omega
      simp [ixF, h1, h2]
theorem ixF_cases (f : Nat → Bool) : ∀ n : Nat, (ixF f n = -1 ∧ ∀ k, k < n → f k = false) ∨ ∃ k, k < n ∧ ixF f n = (k : Int) ∧ f k = true ∧ ∀ j, j < k → f j = false
  | 0 => .inl ⟨rfl, fun k hk => absurd hk (Nat.not_lt_zero k)⟩
  | n + 1 => by
    rcases ixF_cases f n with ⟨h1, h2⟩ | ⟨k, h1, h2, h3, h4⟩
    · cases hf : f n
      · refine .inl ⟨by simp [ixF, h1, hf], fun k hk => ?_⟩
        rcases Nat.lt_or_ge k n with h | h
        · exact h2 k h
        · obtain rfl : k = n := by omega
          exact hf
      · exact .inr ⟨n, by omega, by simp [ixF, h1, hf], hf, h2⟩
    · exact .inr ⟨k, by omega, ixF_at h4 h3 (by omega), h3, h4⟩

set_option maxHeartbeats 4000000 in
set_option maxRecDepth 100000 in
theorem readCase1_any (s B : Nat) (wd : ByteArray) (w : World) (hs : s < 6) (hE : EnvW w) (hB : w.heap[B]? = some (.cells #[.string wd] 9)) :
    Calls Tryd.prog 102 #[.int .i64 (s : Int), .pointer (some ⟨B, 0, none⟩)] w fun e w' => e = .returned (.bool (decide (wdS s = wd))) ∧ Below w.heap.size w w' := by
  obtain ⟨b0, bl⟩ := cell1_6 hB
  have x0 := hE.rows s hs
  have xl := hE.low
  have s6 : (s : Int) < 6 := by omega
  clear hB hE
  generalize wdS s = t at *
  by_cases h : t = wd
  · have e1 := str_eq6 h
    rw [decide_eq_true h]
    clear h
    go_enter Tryd.func102, Tryd.ntmps102
    go_wp2_with fail
    refine wp_region_after (by kernel_rfl) (by kernel_rfl) (fun hcell => ?_)
    repeat (go_big_quiet_step (fail))
    refine wpQuiet_nil ?_
    intro w3 hb3
    have HB3 := Lib.hid hb3
    clear hcell hb3
    go_wp2
    go_ret
    exact ⟨rfl, HB3.out⟩
  · have e1 := str_ne6 h
    rw [decide_eq_false h]
    clear h
    go_enter Tryd.func102, Tryd.ntmps102
    go_wp2_with fail
    refine wp_region_after (by kernel_rfl) (by kernel_rfl) (fun hcell => ?_)
    repeat (go_big_quiet_step (fail))
    refine wpQuiet_nil ?_
    intro w3 hb3
    have HB3 := Lib.hid hb3
    clear hcell hb3
    go_wp2
    go_ret
    exact ⟨rfl, HB3.out⟩

set_option maxHeartbeats 4000000 in
set_option maxRecDepth 100000 in
theorem indexStep_any (A : Option Addr) (n c : Nat) (l : Nat → Nat) (B : Nat) (wd : ByteArray) (w : World) (hn : n ≤ 100) (hl : ∀ k, k < n → l k < 6) (hp : IHas w A n (fun k => ((l k : Nat) : Int))) (hE : EnvW w) (hB : w.heap[B]? = some (.cells #[.string wd] 9)) :
    Calls Tryd.prog 101 #[.slice A n c, .func (.func 102) #[] #[.pointer (some ⟨B, 0, none⟩)]] w fun e w' => e = .returned (.int .i64 (ixF (fun k => decide (wdS (l k) = wd)) n)) ∧ Below w.heap.size w w' := by
  have HP := Lib.hid hp
  have HE := Lib.hid hE
  have HB0 := Lib.hid hB
  have HL := Lib.hid hl
  have HBC := Lib.hid (fun k => show (fun k => decide (wdS (l k) = wd)) k = decide (wdS (l k) = wd) from rfl)
  generalize hF : (fun k => decide (wdS (l k) = wd)) = F at *
  clear hp hE hB hl hF
  go_enter Tryd.func101, Tryd.ntmps101
  go_wp2
  go_loopw [5, 8] (fun _ i wr => ∃ k : Nat, k ≤ n ∧ i = .int .i64 (k : Int) ∧ (∀ j, j < k → F j = false) ∧ Below w.heap.size w wr) (fun _ i _ => n - (intOf i).toNat)
  case atStart => exact ⟨0, Nat.zero_le _, rfl, fun j hj => absurd hj (Nat.not_lt_zero j), Below.refl _ _⟩
  case round =>
    obtain ⟨k, hk, rfl, hf, hb⟩ := hrel
    have HFJ := Lib.hid hf
    have HB := Lib.hid hb
    clear hf hb
    by_cases hlt : k < n
    · obtain ⟨b, off, rfl, hP⟩ := (HP.out.later HB.out) (by omega)
      have x0 := hP.v k hlt
      have x1 := hP.lt
      have HC := Lib.hid (readCase1_any (l k) B wd wr (HL.out k hlt) (HE.out.later HB.out) ((HB.out.block _ (lt_of_heap HB0.out)).trans HB0.out))
      rw [← HBC.out k] at HC
      clear hP
      generalize l k = y at *
      go_wp2_with fail
      refine HC.out.mono ?_
      rintro e w3 ⟨rfl, hb3⟩
      have HB3 := Lib.hid (bthen HB.out hb3)
      clear hb3 HC
      cases hr : F k
      · have HN := Lib.hid (show ∀ j, j < k + 1 → F j = false from fun j hj => by
          rcases Nat.lt_or_ge j k with h | h
          · exact HFJ.out j h
          · obtain rfl : j = k := by omega
            exact hr)
        clear x0 x1
        go_wp2
        go_roundw
        case rel => exact ⟨k + 1, by omega, by go_num, HN.out, HB3.out⟩
        case measure => simp [intOf]; omega
      · have HN := Lib.hid (ixF_at HFJ.out hr hlt)
        clear x0 x1
        go_wp2
        go_ret
        exact ⟨int_of HN.out.symm, HB3.out⟩
    · obtain rfl : k = n := by omega
      have HN := Lib.hid (ixF_none HFJ.out)
      go_wp2
      go_ret
      exact ⟨int_of HN.out.symm, HB.out⟩

/-- The index of a step among those that may follow. -/
def siF (ct la lm : Int) (wd : ByteArray) : Int := ixF (fun k => decide (wdS (ilq (nxF ct la lm) k) = wd)) (nxF ct la lm).length
/-- What a case has come to: its number of steps, the last one, how many are lame. -/
def csF (q : Nat → ByteArray) : Nat → Option (Int × Int × Int)
  | 0 => some (0, 0, 0)
  | k + 1 => match csF q k with
    | none => none
    | some (ct, la, lm) => if siF ct la lm (q k) = -1 then none else some (ct + 1, ((ilq (nxF ct la lm) (siF ct la lm (q k)).toNat : Nat) : Int), lmF lm (ilq (nxF ct la lm) (siF ct la lm (q k)).toNat))
theorem csF_bd {q : Nat → ByteArray} : ∀ {n : Nat} {ct la lm : Int}, csF q n = some (ct, la, lm) → ct = n ∧ 0 ≤ lm ∧ lm ≤ n
  | 0, ct, la, lm, h => by simp [csF] at h; obtain ⟨rfl, rfl, rfl⟩ := h; simp
  | n + 1, ct, la, lm, h => by
    unfold csF at h
    cases h1 : csF q n with
    | none => rw [h1] at h; simp at h
    | some st =>
      obtain ⟨c1, l1, m1⟩ := st
      rw [h1] at h
      obtain ⟨rfl, h2, h3⟩ := csF_bd h1
      simp only at h
      split at h
      · cases h
      · simp only [Option.some.injEq, Prod.mk.injEq] at h
        obtain ⟨rfl, _, rfl⟩ := h
        unfold lmF
        split
        · omega
        · split <;> omega
theorem csF_later {q : Nat → ByteArray} {k : Nat} (h : csF q k = none) : ∀ {n : Nat}, k ≤ n → csF q n = none
  | 0, hk => by obtain rfl : k = 0 := by omega
                exact h
  | n + 1, hk => by
    rcases Nat.lt_or_ge n k with h1 | h1
    · obtain rfl : k = n + 1 := by omega
      exact h
    · have := csF_later h h1
      simp [csF, this]
/-- Three cells written. -/
theorem set3_6 {W : World} {g : Nat} {T : TypeId} {z0 z1 z2 : Value} (h : W.heap[g]? = some (.cells #[z0, z1, z2] T)) (v0 v1 v2 : Value) :
    (((W.setCell ⟨g, 0, none⟩ v0).setCell ⟨g, 1, none⟩ v1).setCell ⟨g, 2, none⟩ v2).heap[g]? = some (.cells #[v0, v1, v2] T) ∧ (∀ b, b ≠ g → (((W.setCell ⟨g, 0, none⟩ v0).setCell ⟨g, 1, none⟩ v1).setCell ⟨g, 2, none⟩ v2).heap[b]? = W.heap[b]?) ∧
      ∀ w, Below w.heap.size w W → w.heap.size ≤ g → Below w.heap.size w (((W.setCell ⟨g, 0, none⟩ v0).setCell ⟨g, 1, none⟩ v1).setCell ⟨g, 2, none⟩ v2) := by
  have ne_ : ∀ (w : World) (o : Nat) (v : Value) (b : Nat), b ≠ g → (w.setCell ⟨g, o, none⟩ v).heap[b]? = w.heap[b]? := fun w o v b hb => Below.heap_setCell _ _ _ _ hb
  have bl_ : ∀ (w W : World) (o : Nat) (v : Value), Below w.heap.size w W → w.heap.size ≤ g → Below w.heap.size w (W.setCell ⟨g, o, none⟩ v) := fun w W o v h hg => h.setCell (p := ⟨g, o, none⟩) hg v
  refine ⟨?_, fun b hb => by rw [ne_ _ _ _ _ hb, ne_ _ _ _ _ hb, ne_ _ _ _ _ hb], fun w hb hg => bl_ _ _ _ _ (bl_ _ _ _ _ (bl_ _ _ _ _ hb hg) hg) hg⟩
  have := heap_set6 (heap_set6 (heap_set6 h 0 v0) 1 v1) 2 v2
  simpa using this
/-- What reading a case gives. -/
def RetCs (W : World) (st : Option (Int × Int × Int)) (e : Ending) (w' : World) : Prop :=
  (∀ ct la lm, st = some (ct, la, lm) → e = .returned (.tuple #[.agg #[.int .i64 ct, .int .i64 la, .int .i64 lm], .bool true])) ∧ (st = none → e = .returned (.tuple #[.agg #[.int .i64 0, .int .i64 0, .int .i64 0], .bool false])) ∧ Below W.heap.size W w'

set_option maxHeartbeats 16000000 in
set_option maxRecDepth 100000 in
theorem readCase_any (A : Option Addr) (n c : Nat) (q : Nat → ByteArray) (w : World) (hn : n ≤ 1000) (hp : SHas w A n q) (hE : EnvW w) :
    Calls Tryd.prog 84 #[.slice A n c] w (RetCs w (csF q n)) := by
  obtain ⟨W0, hW0⟩ : ∃ W0, w.alloc (.cells #[.int .i64 0, .int .i64 0, .int .i64 0] 96) = W0 := ⟨_, rfl⟩
  have Z0 := Lib.hid (show W0.heap[w.heap.size]? = some (.cells #[.int .i64 0, .int .i64 0, .int .i64 0] 96) from by rw [← hW0]; exact new_at w _ _ rfl)
  have S0 := Lib.hid (show W0.heap.size = w.heap.size + 1 from by rw [← hW0]; simp)
  have HB0 := Lib.hid (show Below w.heap.size w W0 from by rw [← hW0]; exact (Below.refl _ _).alloc (Nat.le_refl _) _)
  obtain ⟨W1, hW1⟩ : ∃ W1, W0.alloc (.cells #[.int .i64 0, .int .i64 0, .int .i64 0] 96) = W1 := ⟨_, rfl⟩
  have Z1 := Lib.hid (show W1.heap[w.heap.size + 1]? = some (.cells #[.int .i64 0, .int .i64 0, .int .i64 0] 96) from by rw [← hW1]; exact new_at W0 _ _ S0.out)
  have HB01 := Lib.hid (show Below W0.heap.size W0 W1 from by rw [← hW1]; exact (Below.refl _ _).alloc (Nat.le_refl _) _)
  have Z10 := Lib.hid ((HB01.out.block _ (lt_of_heap Z0.out)).trans Z0.out)
  have HB1 := Lib.hid (bthen HB0.out HB01.out)
  have HP := Lib.hid hp
  have HE := Lib.hid hE
  clear hp hE
  go_enter Tryd.func84, Tryd.ntmps84
  go_wp2_with fail
  rw [S0.out]
  clear hW0 hW1
  go_loopw [6, 7, 8, 11] (fun _ _ _ i wr => ∃ (k : Nat) (ct la lm : Int), k ≤ n ∧ i = .int .i64 (k : Int) ∧ csF q k = some (ct, la, lm) ∧ wr.heap[w.heap.size + 1]? = some (.cells #[.int .i64 ct, .int .i64 la, .int .i64 lm] 96) ∧ wr.heap[w.heap.size]? = some (.cells #[.int .i64 0, .int .i64 0, .int .i64 0] 96) ∧ Below w.heap.size w wr) (fun _ _ _ i _ => n - (intOf i).toNat)
  case atStart => exact ⟨0, 0, 0, 0, Nat.zero_le _, rfl, rfl, Z1.out, Z10.out, HB1.out⟩
  case round =>
    obtain ⟨k, ct, la, lm, hk, rfl, hcs, hz1, hz0, hb⟩ := hrel
    have HCS := Lib.hid hcs
    have HZ1 := Lib.hid hz1
    have HZ0 := Lib.hid hz0
    have HB := Lib.hid hb
    obtain ⟨b1, b2, b3⟩ := csF_bd hcs
    subst b1
    obtain ⟨a0, a1, a2, al⟩ := cell3_6 hz1
    clear hcs hz1 hz0 hb
    by_cases hlt : k < n
    · obtain ⟨b, off, rfl, lb, hx⟩ := (HP.out.later HB.out) (by omega)
      have x0 := hx k hlt
      have HST := Lib.hid (show csF q (k + 1) = (if siF (k : Int) la lm (q k) = -1 then none else some ((k : Int) + 1, ((ilq (nxF (k : Int) la lm) (siF (k : Int) la lm (q k)).toNat : Nat) : Int), lmF lm (ilq (nxF (k : Int) la lm) (siF (k : Int) la lm (q k)).toNat))) from by
        show (match csF q k with | none => none | some (ct, la, lm) => _) = _
        rw [HCS.out])
      have HBAD := Lib.hid (fun (h : csF q (k + 1) = none) => csF_later h (show k + 1 ≤ n by omega))
      generalize q k = wd at *
      have HNX := Lib.hid (fun w => next_any (k : Int) la lm w)
      have HNL := Lib.hid (nxF_len (k : Int) la lm)
      have HN6 := Lib.hid (show ∀ j, j < (nxF (k : Int) la lm).length → ilq (nxF (k : Int) la lm) j < 6 from fun j hj => nxF_lt _ (ilq_mem hj))
      have HSI := Lib.hid (ixF_cases (fun i => decide (wdS (ilq (nxF (k : Int) la lm) i) = wd)) (nxF (k : Int) la lm).length)
      have HSE := Lib.hid (show siF (k : Int) la lm wd = ixF (fun i => decide (wdS (ilq (nxF (k : Int) la lm) i) = wd)) (nxF (k : Int) la lm).length from rfl)
      generalize hSI : siF (k : Int) la lm wd = si at *
      rw [← HSE.out] at HSI
      have HIX := Lib.hid (fun A c B w hp hE hB => indexStep_any A (nxF (k : Int) la lm).length c (ilq (nxF (k : Int) la lm)) B wd w (by have := HNL.out; omega) HN6.out hp hE hB)
      rw [← HSE.out] at HIX
      generalize nxF (k : Int) la lm = L at *
      have HAL := Lib.hid (show Below wr.heap.size wr (wr.alloc (.cells #[.string wd] 9)) from (Below.refl _ _).alloc (Nat.le_refl _) _)
      have HZW := Lib.hid (new_at wr (.cells #[.string wd] 9) _ rfl)
      clear hx hSI
      go_wp2_with fail
      refine (HNX.out _).mono ?_
      rintro e w3 ⟨A3, c3, rfl, q1, q2, q3, hb3⟩
      have HI3 := Lib.hid q3
      have HB3 := Lib.hid (bthen HAL.out hb3)
      have HZ3 := Lib.hid ((hb3.block _ (lt_of_heap HZW.out)).trans HZW.out)
      clear q3 hb3 HNX x0 lb a0 a1 a2 al
      go_wp2_with fail
      refine (HIX.out A3 c3 _ _ HI3.out (HE.out.later (bthen HB.out HB3.out)) HZ3.out).mono ?_
      rintro e w4 ⟨rfl, hb4⟩
      have HB4 := Lib.hid (bthen HB3.out hb4)
      have HI4 := Lib.hid (HI3.out.later hb4)
      have HZ14 := Lib.hid ((HB4.out.block _ (lt_of_heap HZ1.out)).trans HZ1.out)
      have HZ04 := Lib.hid ((HB4.out.block _ (lt_of_heap HZ0.out)).trans HZ0.out)
      clear hb4 HIX
      rcases HSI.out with ⟨h1, _⟩ | ⟨j, h2, h1, _, _⟩
      · have HN := Lib.hid (HBAD.out (HST.out.trans (by rw [if_pos h1])))
        subst h1
        obtain ⟨r0, r1, r2, rl⟩ := cell3_6 HZ04.out
        have f0 : ∀ j, w4.frozen? ⟨w.heap.size, j, none⟩ = false := fun j => by have := HZ04.out; simp [World.frozen?, this]
        have f00 := f0 0
        have f01 := f0 1
        have f02 := f0 2
        clear f0 HST HBAD HSI
        go_wp2
        obtain ⟨s1, s2, s3⟩ := set3_6 HZ04.out (.int .i64 0) (.int .i64 0) (.int .i64 0)
        have hbl := s3 w (bthen HB.out HB4.out) (Nat.le_refl _)
        clear r0 r1 r2 rl f00 f01 f02 s2 s3
        generalize ((w4.setCell ⟨w.heap.size, 0, none⟩ (.int .i64 0)).setCell ⟨w.heap.size, 1, none⟩ (.int .i64 0)).setCell ⟨w.heap.size, 2, none⟩ (.int .i64 0) = W4 at *
        obtain ⟨r0, r1, r2, rl⟩ := cell3_6 s1
        refine bodyPost_ret (v := .tuple #[.agg #[.int .i64 0, .int .i64 0, .int .i64 0], .bool false]) (by simp [results, Tryd.results84, go_sem, r0, r1, r2]) rfl ⟨fun ct la lm h => ?_, fun _ => rfl, hbl⟩
        rw [HN.out] at h; cases h
      · have hj1 : ¬ si = -1 := by omega
        have HN := Lib.hid (HST.out.trans (by rw [if_neg hj1, h1, Int.toNat_natCast]))
        subst h1
        have HN6j := HN6.out j h2
        obtain ⟨g3, off3, rfl, hP3⟩ := HI4.out (by omega)
        have y0 := hP3.v j h2
        have yl := hP3.lt
        have hj2 : ¬ (j : Int) < 0 := by omega
        have hj3 : (j : Int) < (L.length : Int) := by omega
        clear hP3 HST HBAD HSI hj1
        generalize ilq L j = s at *
        have HWI := Lib.hid (fun w => with_any (k : Int) la lm s w (by omega) (by omega))
        obtain ⟨a0, a1, a2, al⟩ := cell3_6 HZ14.out
        go_wp2_with fail
        refine wp_region_from_tail 6 (Below.refl _ _) (by kernel_rfl) (by kernel_rfl) (fun hcell => ?_)
        simp only [List.take_succ_cons, List.take_zero, List.drop_succ_cons, List.drop_zero]
        repeat (go_big_quiet_step ((exact After.call _ (HWI.out _))))
        refine wpQuiet_nil ?_
        intro w5 hb5
        have HZ15 := Lib.hid ((hb5.block _ (lt_of_heap HZ14.out)).trans HZ14.out)
        have HZ05 := Lib.hid ((hb5.block _ (lt_of_heap HZ04.out)).trans HZ04.out)
        have HB5 := Lib.hid (bthen HB.out (bthen HB4.out hb5))
        clear hcell hb5 a0 a1 a2 al y0 yl
        obtain ⟨a0, a1, a2, al⟩ := cell3_6 HZ15.out
        have f0 : ∀ j, w5.frozen? ⟨w.heap.size + 1, j, none⟩ = false := fun j => by have := HZ15.out; simp [World.frozen?, this]
        have f00 := f0 0
        have f01 := f0 1
        have f02 := f0 2
        obtain ⟨s1, s2, s3⟩ := set3_6 HZ15.out (.int .i64 ((k : Int) + 1)) (.int .i64 (s : Int)) (.int .i64 (lmF lm s))
        have HS1 := Lib.hid s1
        have HS2 := Lib.hid ((s2 w.heap.size (by omega)).trans HZ05.out)
        have HS3 := Lib.hid (s3 w HB5.out (by omega))
        clear f0 s1 s2 s3
        go_wp2
        go_roundw
        case rel => exact ⟨k + 1, (k : Int) + 1, (s : Int), lmF lm s, by omega, by go_num, HN.out, HS1.out, HS2.out, HS3.out⟩
        case measure => simp [intOf]; omega
    · obtain rfl : k = n := by omega
      obtain ⟨r0, r1, r2, rl⟩ := cell3_6 HZ0.out
      have f0 : ∀ j, wr.frozen? ⟨w.heap.size, j, none⟩ = false := fun j => by have := HZ0.out; simp [World.frozen?, this]
      have f00 := f0 0
      have f01 := f0 1
      have f02 := f0 2
      clear f0
      go_wp2
      obtain ⟨s1, s2, s3⟩ := set3_6 HZ0.out (.int .i64 (k : Int)) (.int .i64 la) (.int .i64 lm)
      have hbl := s3 w HB.out (Nat.le_refl _)
      clear r0 r1 r2 rl f00 f01 f02 s2 s3 a0 a1 a2 al
      generalize ((wr.setCell ⟨w.heap.size, 0, none⟩ (.int .i64 (k : Int))).setCell ⟨w.heap.size, 1, none⟩ (.int .i64 la)).setCell ⟨w.heap.size, 2, none⟩ (.int .i64 lm) = W4 at *
      obtain ⟨r0, r1, r2, rl⟩ := cell3_6 s1
      refine bodyPost_ret (v := .tuple #[.agg #[.int .i64 (k : Int), .int .i64 la, .int .i64 lm], .bool true]) (by simp [results, Tryd.results84, go_sem, r0, r1, r2]) rfl ⟨fun ct' la' lm' h => ?_, fun h => ?_, hbl⟩
      · rw [HCS.out] at h
        injection h with h
        injection h with h1 h2
        injection h2 with h2 h3
        subst h1; subst h2; subst h3
        rfl
      · rw [HCS.out] at h; cases h
end Go.Proofs.YtcifmmdfjglbnaaDoor
