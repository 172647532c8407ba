/- One debt more (the code's side), by contract; no statement is proved here. -/
import Derived.Test.YtgdlcpocelicmaaBiDebt
import Derived.ArgAppend
import Derived.Maps.AppendAt
import Derived.Lib.AppendZeros
namespace Go.Proofs.Ytgdlcpocelicmaa
open Go.ChangeShapes Go.WideShapes Go.ChangeAt Go.RowKit

theorem infoItem : (Try.prog.info? 49).map (fun i => (i.zero, i.size, i.bytes)) = some (some (.agg #[.int .i64 0, .int .i64 0]), 2, 16) := by kernel_rfl
def itL : List (Int × Int) → List Value
  | [] => []
  | x :: t => .int .i64 x.1 :: .int .i64 x.2 :: itL t
theorem itL_len : ∀ l, (itL l).length = l.length * 2
  | [] => rfl
  | x :: t => by simp only [itL, List.length_cons, itL_len t]; omega
theorem itL_get : ∀ (l : List (Int × Int)) (j : Nat) (x : Int × Int), l[j]? = some x → (itL l)[j * 2]? = some (.int .i64 x.1) ∧ (itL l)[j * 2 + 1]? = some (.int .i64 x.2)
  | [], j, x, h => by simp at h
  | y :: t, 0, x, h => by
    simp only [List.getElem?_cons_zero, Option.some.injEq] at h
    subst h
    exact ⟨rfl, rfl⟩
  | y :: t, j + 1, x, h => by
    have h1 := itL_get t j x (by simpa using h)
    rw [show (j + 1) * 2 = j * 2 + 1 + 1 by omega]
    simp only [itL, List.getElem?_cons_succ]
    exact h1
theorem itL_append (l : List (Int × Int)) (y : Int × Int) : itL (l ++ [y]) = itL l ++ [.int .i64 y.1, .int .i64 y.2] := by
  induction l with
  | nil => rfl
  | cons x t ih => simp only [List.cons_append, itL, ih]
theorem itL_cell {w : World} {own off : Nat} {cur : Array Value} {l : List (Int × Int)} (hcur : w.heap[own]? = some (.cells cur 49))
    (hv : ∀ j x, l[j]? = some x → cur[off + j * 2]? = some (.int .i64 x.1) ∧ cur[off + j * 2 + 1]? = some (.int .i64 x.2)) (j : Nat) (u : Value) (hj : (itL l)[j]? = some u) : w.cell? ⟨own, off + j, none⟩ = some u := by
  have hlt := (List.getElem?_eq_some_iff.1 hj).1
  rw [itL_len] at hlt
  have hk : j / 2 < l.length := by omega
  have hx : l[j / 2]? = some l[j / 2] := List.getElem?_eq_getElem hk
  obtain ⟨a1, a2⟩ := itL_get l _ _ hx
  obtain ⟨b1, b2⟩ := hv _ _ hx
  rw [items_two hcur]
  rcases (show j = j / 2 * 2 ∨ j = j / 2 * 2 + 1 by omega) with e | e
  · rw [e] at hj ⊢
    rw [a1] at hj; injection hj with hj; subst hj; exact b1
  · rw [e] at hj ⊢
    rw [a2] at hj; injection hj with hj; subst hj; rw [← Nat.add_assoc]; exact b2
/-- A row of items of one's own, as a slice. -/
theorem iat_owns {W : World} {base g n : Nat} {v : Value} {l : List (Int × Int)} (hn : n = l.length) (hg : g < base) (h : W.ownsRow base 49 2 v n (itL l)) : ∃ A c, v = .slice A n c ∧ IAt W g A n c l ∧ (∀ b o s, A = some ⟨b, o, s⟩ → base ≤ b) := by
  rcases h.2 with ⟨rfl, h0⟩ | ⟨g', cap, cur, rfl, hg', h5, h6, h7, h8, h9⟩
  · subst h0
    have h1 : l = [] := List.length_eq_zero_iff.1 hn.symm
    subst h1
    exact ⟨none, 0, rfl, ⟨rfl, Nat.le_refl _, by omega, .inl ⟨rfl, rfl⟩⟩, fun b o s e => by cases e⟩
  · refine ⟨_, cap, rfl, ⟨hn, h6, by unfold maxLen at h7; omega, .inr ⟨g', 0, cur, rfl, by omega, h5, by omega, fun j x hj => ?_⟩⟩, fun b o s e => by cases e; exact hg'⟩
    have hlt := (List.getElem?_eq_some_iff.1 hj).1
    obtain ⟨a1, a2⟩ := itL_get l j x hj
    rw [← h9, List.getElem?_take, if_pos (by omega)] at a1 a2
    exact ⟨by simpa using a1, by simpa using a2⟩
/-- One item more at the end. -/
theorem append_items {w : World} {ops : Array Oper} {rest : List Oper} {o : Oper} {a : Act} {Q : Exit → Act → World → Prop} (hgd : o.guard = none) (s x : Operand)
    (ho : o.op = .call { callee := .builtin .append, args := #[s, x], argTypes := #[42, 42] }) (g n cap : Nat) (A : Option Addr) (l : List (Int × Int)) (hs : a.eval s = .slice A n cap) (hA : IAt w g A n cap l) (hn : n ≤ 100000) (hg : g < w.heap.size)
    (ad : Addr) (y : Int × Int) (hx : a.eval x = .slice (some ad) 1 1) (hc : ∀ j u, [Value.int .i64 y.1, .int .i64 y.2][j]? = some u → w.cell? (ad.add j) = some u)
    (h : ∀ A' c' w', IAt w' g A' (n + 1) c' (l ++ [y]) → (∀ b o s, A' = some ⟨b, o, s⟩ → (∃ o', A = some ⟨b, o', none⟩) ∨ w.heap.size ≤ b) → (∀ own, (∀ b o s, A = some ⟨b, o, s⟩ → own = some b) → w.grownBy w' own) → wpList Try.prog ops Q rest (a.put o.dst (.slice A' (n + 1) c')) w') : wpList Try.prog ops Q (o :: rest) a w := by
  obtain ⟨i0, hi0, hz0, hz1, hz2⟩ := info_parts infoItem
  obtain ⟨rfl, hnc, hcm, hA3⟩ := hA
  rcases hA3 with ⟨rfl, rfl⟩ | ⟨own, off, cur, rfl, hne, hcur, hsz, hv⟩
  · have hl : l = [] := List.length_eq_zero_iff.1 (by omega)
    subst hl
    obtain ⟨v', w', r1, r2, r3, r4, r5⟩ := run_append_own_at (P := Try.prog) (w := w) w.heap.size 42 o.type 49 i0 (.agg #[.int .i64 0, .int .i64 0]) 2 16 Try.underlying42 hi0 hz0 hz1 hz2 rfl (by decide) (.slice none 0 0) 0 [] (World.ownsRow_nil _ _ _ _) ad 1 1 [.int .i64 y.1, .int .i64 y.2] rfl hc (by intro u hu; simp at hu; rcases hu with rfl | rfl <;> rfl) (by unfold maxLen; omega) (by omega) (Nat.le_refl _)
    obtain ⟨A', c', rfl, q1, q2⟩ := iat_owns (g := g) (n := 0 + 1) (l := [y]) rfl hg r2
    refine Lib.wpList_append_run w hgd s x _ _ ho _ _ hs hx _ w' r1 (h A' c' w' q1 (fun b o s e => .inr (q2 b o s e)) (fun own hown => ?_))
    exact ⟨r3.os, r3.tape, r3.output, r3.size, fun k hk _ => r3.block k hk (by intro e; cases e)⟩
  · have hcell : ∀ k, w.cell? ⟨own, k, none⟩ = cur[k]? := fun k => items_two hcur k
    refine wpList_append_arg w hgd s x 42 ho 49 i0 (.agg #[.int .i64 0, .int .i64 0]) 2 16 Try.underlying42 hi0 hz0 hz1 hz2 rfl (by decide) own off l.length cap (itL l) hs (itL_len l) (itL_cell hcur hv) ad 1 1 [.int .i64 y.1, .int .i64 y.2] hx rfl hc (by intro u hu; simp at hu; rcases hu with rfl | rfl <;> rfl) (fun hr j hj => ?_) (by unfold maxLen; omega) (by omega) (fun hr => ?_) (fun hr v' w' h2 h3 => ?_)
    · simp at hj
      constructor
      · rw [hcell]
        simp
        omega
      · simp [World.frozen?, hcur]
    · show wpList Try.prog ops Q rest _ ((w.setCell ⟨own, off + l.length * 2, none⟩ (.int .i64 y.1)).setCell ⟨own, off + l.length * 2 + 1, none⟩ (.int .i64 y.2))
      refine h _ _ _ ⟨by simp, hr, hcm, .inr ⟨own, off, _, rfl, hne, heap_set8 (heap_set8 hcur _ _) _ _, by simp; exact hsz, fun j x hj => ?_⟩⟩ (fun b o s e => .inl (by cases e; exact ⟨_, rfl⟩)) (fun own' hown => ?_)
      · by_cases e : j = l.length
        · subst e
          simp only [List.getElem?_concat_length, Option.some.injEq] at hj
          subst hj
          rw [Array.getElem?_setIfInBounds_ne (by omega), Array.getElem?_setIfInBounds_self_of_lt (by omega), Array.getElem?_setIfInBounds_self_of_lt (by rw [Array.size_setIfInBounds]; omega)]
          exact ⟨rfl, rfl⟩
        · have hlt := (List.getElem?_eq_some_iff.1 hj).1
          simp at hlt
          rw [List.getElem?_append_left (by omega)] at hj
          rw [Array.getElem?_setIfInBounds_ne (by omega), Array.getElem?_setIfInBounds_ne (by omega), Array.getElem?_setIfInBounds_ne (by omega), Array.getElem?_setIfInBounds_ne (by omega)]
          exact hv j x hj
      · have := hown own off none rfl
        subst this
        exact ⟨rfl, rfl, rfl, by simp [World.setCell], fun k _ hk => by
          have hk2 : k ≠ own := fun e => hk (by rw [e])
          exact (Below.heap_setCell _ _ _ _ hk2).trans (Below.heap_setCell _ _ _ _ hk2)⟩
    · have e := itL_append l y
      rw [← e] at h2
      obtain ⟨A', c', rfl, q1, q2⟩ := iat_owns (g := g) (l := l ++ [y]) (by simp) hg h2
      refine h A' c' w' q1 (fun b o s e => .inr (q2 b o s e)) (fun own' hown => ?_)
      exact ⟨h3.os, h3.tape, h3.output, h3.size, fun k hk _ => h3.block k hk (by intro e; cases e)⟩
theorem iat_loc {W : World} {g n c : Nat} {A : Option Addr} {l : List (Int × Int)} (h : IAt W g A n c l) {b o : Nat} {s : Option Nat} (e : A = some ⟨b, o, s⟩) : ∃ o', A = some ⟨b, o', none⟩ := by
  rcases h.2.2.2 with ⟨h1, _⟩ | ⟨own, off, cur, h1, _⟩
  · rw [h1] at e; cases e
  · rw [h1] at e; injection e with e; injection e with e1 e2 e3; subst e1; exact ⟨off, h1⟩
theorem iat_kept {W W' : World} {g n c : Nat} {A : Option Addr} {l : List (Int × Int)} (h : IAt W g A n c l) (hk : ∀ b, b ≠ g → b < W.heap.size → (∃ o, A = some ⟨b, o, none⟩) → W'.heap[b]? = W.heap[b]?) : IAt W' g A n c l := by
  obtain ⟨h1, h2, h3, h4⟩ := h
  refine ⟨h1, h2, h3, ?_⟩
  rcases h4 with h4 | ⟨own, off, cur, h5, h6, h7, h8⟩
  · exact .inl h4
  · exact .inr ⟨own, off, cur, h5, h6, (hk own h6 (lt_of_heap h7) ⟨off, h5⟩).trans h7, h8⟩
theorem iat_own {W : World} {g n c : Nat} {A : Option Addr} {l : List (Int × Int)} (h : IAt W g A n c l) : ∃ own : Option Nat, (∀ b o s, A = some ⟨b, o, s⟩ → own = some b) ∧ some g ≠ own ∧ (∀ b, own = some b → ∃ o, A = some ⟨b, o, none⟩) := by
  rcases h.2.2.2 with ⟨h1, _⟩ | ⟨own, off, cur, h1, h2, _⟩
  · exact ⟨none, (fun b o s e => by rw [h1] at e; cases e), (fun e => by cases e), (fun b e => by cases e)⟩
  · exact ⟨some own, (fun b o s e => by rw [h1] at e; injection e with e; injection e with e1 e2 e3; rw [e1]), (fun e => by injection e with e; exact h2 e.symm), (fun b e => by injection e with e; subst e; exact ⟨off, h1⟩)⟩

set_option maxHeartbeats 8000000 in
set_option maxRecDepth 100000 in
theorem owe_any (g : Nat) (A : Option Addr) (n c : Nat) (l : List (Int × Int)) (h d a : Int) (w : World) (hg : w.heap[g]? = some (.cells #[.slice A n c, .int .i64 h] 83)) (hA : IAt w g A n c l) (hn : n ≤ 100000)
    (ha0 : 0 < a) (ha1 : a ≤ 1000000000000) (hh0 : 0 ≤ h) (hh1 : h ≤ 1000000000000) :
    Calls Try.prog 83 #[.pointer (some ⟨g, 0, none⟩), .int .i64 d, .int .i64 a] w fun e w' => e = .returned (.tuple #[]) ∧ ∃ A' n' c', w'.heap[g]? = some (.cells #[.slice A' n' c', .int .i64 (if h < a then 0 else h - a)] 83) ∧ IAt w' g A' n' c' (if h < a then l ++ [(d, a - h)] else l) ∧
      (∀ b o s, A' = some ⟨b, o, s⟩ → (∃ o', A = some ⟨b, o', none⟩) ∨ w.heap.size ≤ b) ∧ w'.os = w.os ∧ w'.tape = w.tape ∧ w'.output = w.output ∧ w.heap.size ≤ w'.heap.size ∧ ∀ b, b < w.heap.size → b ≠ g → (∀ o s, A ≠ some ⟨b, o, s⟩) → w'.heap[b]? = w.heap[b]? := by
  have HG := Lib.hid hg
  have HA := Lib.hid hA
  have hg0 : w.cell? ⟨g, 0, none⟩ = some (.slice A n c) := by simp [World.cell?, hg]
  have hg1 : w.cell? ⟨g, 1, none⟩ = some (.int .i64 h) := by simp [World.cell?, hg]
  have hf0 : w.frozen? ⟨g, 0, none⟩ = false := by simp [World.frozen?, hg]
  have hf1 : w.frozen? ⟨g, 1, none⟩ = false := by simp [World.frozen?, hg]
  have hgl := lt_of_heap hg
  clear hg hA
  by_cases hlt : h < a
  · rw [if_pos hlt, if_pos hlt]
    have hle : ¬ a ≤ h := by omega
    have HE := Lib.hid (pay_end (q := 0) (w := w) (A0 := A) HG.out HA.out ⟨rfl, rfl, rfl, rfl, fun _ _ _ => rfl⟩)
    go_enter Try.func83, Try.ntmps83
    have HAL := Lib.hid (fun o => (show Below (w.setCell ⟨g, 1, none⟩ (.int .i64 0)).heap.size (w.setCell ⟨g, 1, none⟩ (.int .i64 0)) ((w.setCell ⟨g, 1, none⟩ (.int .i64 0)).alloc o) from (Below.refl _ _).alloc (Nat.le_refl _) o))
    have hsz1 : (w.setCell ⟨g, 1, none⟩ (.int .i64 0)).heap.size = w.heap.size := by simp [World.setCell]
    have HNEW := Lib.hid (new_at (w.setCell ⟨g, 1, none⟩ (.int .i64 0)) (.cells #[.int .i64 d, .int .i64 (a - h)] 49) _ hsz1)
    have HIA := Lib.hid (show ∀ o, IAt ((w.setCell ⟨g, 1, none⟩ (.int .i64 0)).alloc o) g A n c l from fun o => iat_kept HE.out.2.1 (fun b _ hb _ => (HAL.out o).block b hb))
    have HS1 := Lib.hid hsz1
    clear hsz1
    go_wp2_with (at_builtin; go_loud (refine append_items rfl _ _ rfl g n c A l rfl (HIA.out _) hn (by rw [World.size_alloc, HS1.out]; omega) ⟨w.heap.size, 0, none⟩ (d, a - h) rfl (fun j u hj => by
      match j, hj with
      | 0, hj => simp at hj; subst hj; exact (items_two HNEW.out _).trans rfl
      | 1, hj => simp at hj; subst hj; exact (items_two HNEW.out _).trans rfl) ?_))
    intro A' c' w' hI hloc hgr
    obtain ⟨ow, o1, o2, o3⟩ := iat_own HA.out
    have HGR := Lib.hid (hgr ow o1)
    have HI := Lib.hid hI
    have HL := Lib.hid hloc
    have HO := Lib.hid o3
    have hgw := (HGR.out.block g (by rw [World.size_alloc, HS1.out]; omega) o2).trans (((HAL.out _).block g (by rw [HS1.out]; exact hgl)).trans HE.out.1)
    have HGW := Lib.hid hgw
    have hf2 : w'.frozen? ⟨g, 0, none⟩ = false := by simp [World.frozen?, hgw]
    have hz0 : w'.cell? ⟨g, 0, none⟩ = some (.slice A n c) := by simp [World.cell?, hgw]
    have hgl2 := lt_of_heap hgw
    clear hI hloc hgr o1 o2 o3 hgw
    go_wp2
    go_end0
    have hsz2 := HGR.out.size
    rw [World.size_alloc, HS1.out] at hsz2
    refine ⟨rfl, A', n + 1, c', (heap_set8 HGW.out _ _).trans rfl, iat_kept HI.out (fun b hb _ _ => Below.heap_setCell _ _ _ _ hb), fun b o s e => ?_, HGR.out.os, HGR.out.tape, HGR.out.output, by simp [World.setCell]; omega, fun b hb hbg hbA => ?_⟩
    · rcases HL.out b o s e with h1 | h1
      · exact .inl h1
      · exact .inr (by omega)
    · have h1 : some b ≠ ow := fun e => by
        obtain ⟨o, h2⟩ := HO.out b e.symm
        exact hbA o none h2
      exact (Below.heap_setCell _ _ _ _ hbg).trans ((HGR.out.block b (by rw [World.size_alloc, HS1.out]; omega) h1).trans (((HAL.out _).block b (by rw [HS1.out]; exact hb)).trans (Below.heap_setCell _ _ _ _ hbg)))
  · rw [if_neg hlt, if_neg hlt]
    have HE := Lib.hid (pay_end (q := h - a) (w := w) (A0 := A) HG.out HA.out ⟨rfl, rfl, rfl, rfl, fun _ _ _ => rfl⟩)
    go_enter Try.func83, Try.ntmps83
    go_wp2
    go_end0
    exact ⟨rfl, A, n, c, HE.out.1, HE.out.2.1, fun b o s e => .inl (iat_loc HA.out e), HE.out.2.2.1, HE.out.2.2.2.1, HE.out.2.2.2.2.1, Nat.le_of_eq HE.out.2.2.2.2.2.1.symm, fun b _ hb1 hb2 => HE.out.2.2.2.2.2.2 b hb1 hb2⟩
end Go.Proofs.Ytgdlcpocelicmaa
