/- Debts in memory, and that they are paid (the code's side), by contract; no statement is proved here. -/
import Derived.Test.YtgdlcpocelicmaaBiItM
import Derived.Test.YtgdlcpocelicmaaBiRun
import Derived.Test.YtgdlcpocelicmaaBiBalance
import Derived.BigQuiet
namespace Go.Proofs.Ytgdlcpocelicmaa
open Go.ChangeShapes Go.WideShapes Go.ChangeAt Go.RowKit

/-- A slice of items that lies in a block of its own, if any. -/
def IAt (W : World) (g : Nat) (A : Option Addr) (n cap : Nat) (l : List (Int × Int)) : Prop :=
  n = l.length ∧ n ≤ cap ∧ cap ≤ 9223372036854775807 ∧ ((A = none ∧ cap = 0) ∨ ∃ (own off : Nat) (cur : Array Value), A = some ⟨own, off, none⟩ ∧ own ≠ g ∧ W.heap[own]? = some (.cells cur 49) ∧ off + cap * 2 ≤ cur.size ∧ ∀ j x, l[j]? = some x → cur[off + j * 2]? = some (.int .i64 x.1) ∧ cur[off + j * 2 + 1]? = some (.int .i64 x.2))
/-- All but two blocks stay. -/
def twoK (g : Nat) (A : Option Addr) (w w' : World) : Prop :=
  w'.os = w.os ∧ w'.tape = w.tape ∧ w'.output = w.output ∧ w'.heap.size = w.heap.size ∧ ∀ b, b ≠ g → (∀ o s, A ≠ some ⟨b, o, s⟩) → w'.heap[b]? = w.heap[b]?
/-- One cell is written. -/
theorem twoK.set {g : Nat} {A : Option Addr} {w w' : World} (h : twoK g A w w') {b o : Nat} (v : Value) (hb : b = g ∨ ∃ o' s, A = some ⟨b, o', s⟩) : twoK g A w (w'.setCell ⟨b, o, none⟩ v) := by
  obtain ⟨h1, h2, h3, h4, h5⟩ := h
  refine ⟨h1, h2, h3, by simpa [World.setCell] using h4, fun c hc1 hc2 => ?_⟩
  have hne : c ≠ b := fun e => by
    rcases hb with hb | ⟨o', s, hb⟩
    · exact hc1 (e.trans hb)
    · exact hc2 o' s (by rw [e]; exact hb)
  exact (Below.heap_setCell _ _ _ _ hne).trans (h5 c hc1 hc2)
theorem items_two {w : World} {b : Nat} {zs : Array Value} {t : TypeId} (h : w.heap[b]? = some (.cells zs t)) (k : Nat) : w.cell? ⟨b, k, none⟩ = zs[k]? := by simp [World.cell?, h]

theorem heap_set8 {w : World} {k : Nat} {t : TypeId} {zs : Array Value} (h : w.heap[k]? = some (.cells zs t)) (o : Nat) (v : Value) : (w.setCell ⟨k, o, none⟩ v).heap[k]? = some (.cells (zs.setIfInBounds o v) t) := by
  have hlt : k < w.heap.size := lt_of_heap h
  have h' : w.heap[k] = .cells zs t := by simpa [Array.getElem?_eq_getElem hlt] using h
  show (w.heap.modify k _)[k]? = _
  rw [Array.getElem?_eq_getElem (by simpa using hlt), Array.getElem_modify_self, h']
  rfl
/-- The oldest item is paid: it is taken off. -/
theorem pay_cut {wr w : World} {g own off off' c : Nat} {A0 : Option Addr} {h : Int} {cur : Array Value} {x : Int × Int} {t : List (Int × Int)} {v : Value}
    (hg2 : wr.heap[g]? = some (.cells #[v, .int .i64 h] 83)) (hne : own ≠ g) (hcur : wr.heap[own]? = some (.cells cur 49)) (hsz : off + c * 2 ≤ cur.size)
    (hv : ∀ j y, (x :: t)[j]? = some y → cur[off + j * 2]? = some (.int .i64 y.1) ∧ cur[off + j * 2 + 1]? = some (.int .i64 y.2)) (hc : (x :: t).length ≤ c) (hcm : c ≤ 9223372036854775807) (hoff : c = 1 ∧ off' = off ∨ off' = off + 2)
    (hk : twoK g A0 w wr) (hA0 : ∃ o', A0 = some ⟨own, o', none⟩) :
    ((wr.setCell ⟨own, off + 1, none⟩ (.int .i64 0)).setCell ⟨g, 0, none⟩ (.slice (some ⟨own, off', none⟩) t.length (c - 1))).heap[g]? = some (.cells #[.slice (some ⟨own, off', none⟩) t.length (c - 1), .int .i64 h] 83)
    ∧ IAt ((wr.setCell ⟨own, off + 1, none⟩ (.int .i64 0)).setCell ⟨g, 0, none⟩ (.slice (some ⟨own, off', none⟩) t.length (c - 1))) g (some ⟨own, off', none⟩) t.length (c - 1) t
    ∧ twoK g A0 w ((wr.setCell ⟨own, off + 1, none⟩ (.int .i64 0)).setCell ⟨g, 0, none⟩ (.slice (some ⟨own, off', none⟩) t.length (c - 1))) := by
  have ne_ : ∀ (w : World) (g o : Nat) (u : Value) (b : Nat), b ≠ g → (w.setCell ⟨g, o, none⟩ u).heap[b]? = w.heap[b]? := fun w g o u b hb => Below.heap_setCell _ _ _ _ hb
  obtain ⟨o', hA0⟩ := hA0
  simp only [List.length_cons] at hc
  refine ⟨?_, ⟨rfl, by omega, by omega, .inr ⟨own, off', cur.setIfInBounds (off + 1) (.int .i64 0), rfl, hne, ?_, ?_, fun j y hj => ?_⟩⟩, ?_⟩
  · rw [heap_set8 ((ne_ _ _ _ _ _ (fun e => hne e.symm)).trans hg2)]; rfl
  · exact (ne_ _ _ _ _ _ hne).trans (heap_set8 hcur _ _)
  · rw [Array.size_setIfInBounds]; omega
  · have hj2 : j < t.length := (List.getElem?_eq_some_iff.1 hj).1
    have h1 := hv (j + 1) y (by simpa using hj)
    rcases hoff with ⟨hc1, _⟩ | rfl
    · omega
    · rw [Array.getElem?_setIfInBounds_ne (by omega), Array.getElem?_setIfInBounds_ne (by omega), show off + 2 + j * 2 = off + (j + 1) * 2 by omega]
      exact h1
  · exact (hk.set _ (.inr ⟨_, _, hA0⟩)).set _ (.inl rfl)
/-- The oldest item is paid in part. -/
theorem pay_less {wr w : World} {g own off c : Nat} {A0 : Option Addr} {h q : Int} {cur : Array Value} {x : Int × Int} {t : List (Int × Int)} {v : Value}
    (hg2 : wr.heap[g]? = some (.cells #[v, .int .i64 h] 83)) (hne : own ≠ g) (hcur : wr.heap[own]? = some (.cells cur 49)) (hsz : off + c * 2 ≤ cur.size)
    (hv : ∀ j y, (x :: t)[j]? = some y → cur[off + j * 2]? = some (.int .i64 y.1) ∧ cur[off + j * 2 + 1]? = some (.int .i64 y.2)) (hc : (x :: t).length ≤ c) (hcm : c ≤ 9223372036854775807)
    (hk : twoK g A0 w wr) (hA0 : ∃ o', A0 = some ⟨own, o', none⟩) :
    (wr.setCell ⟨own, off + 1, none⟩ (.int .i64 (x.2 - q))).heap[g]? = some (.cells #[v, .int .i64 h] 83)
    ∧ IAt (wr.setCell ⟨own, off + 1, none⟩ (.int .i64 (x.2 - q))) g (some ⟨own, off, none⟩) (t.length + 1) c ((x.1, x.2 - q) :: t)
    ∧ twoK g A0 w (wr.setCell ⟨own, off + 1, none⟩ (.int .i64 (x.2 - q))) := by
  have ne_ : ∀ (w : World) (g o : Nat) (u : Value) (b : Nat), b ≠ g → (w.setCell ⟨g, o, none⟩ u).heap[b]? = w.heap[b]? := fun w g o u b hb => Below.heap_setCell _ _ _ _ hb
  obtain ⟨o', hA0⟩ := hA0
  simp only [List.length_cons] at hc
  refine ⟨(ne_ _ _ _ _ _ (fun e => hne e.symm)).trans hg2, ⟨rfl, hc, hcm, .inr ⟨own, off, cur.setIfInBounds (off + 1) (.int .i64 (x.2 - q)), rfl, hne, heap_set8 hcur _ _, by rw [Array.size_setIfInBounds]; exact hsz, fun j y hj => ?_⟩⟩, hk.set _ (.inr ⟨_, _, hA0⟩)⟩
  cases j with
  | zero =>
    have h1 := hv 0 x rfl
    simp only [List.getElem?_cons_zero, Option.some.injEq] at hj
    subst hj
    rw [Nat.zero_mul, Nat.add_zero] at h1 ⊢
    rw [Array.getElem?_setIfInBounds_ne (by omega), Array.getElem?_setIfInBounds_self_of_lt (by omega)]
    exact ⟨h1.1, rfl⟩
  | succ j =>
    have h1 := hv (j + 1) y (by simpa using hj)
    rw [Array.getElem?_setIfInBounds_ne (by omega), Array.getElem?_setIfInBounds_ne (by omega)]
    exact h1
theorem payL_step {x : Int × Int} {t : List (Int × Int)} {q : Int} (h0 : 0 < q) : payL (x :: t) q = if x.2 ≤ q then payL t (q - x.2) else ((x.1, x.2 - q) :: t, 0) := by
  show (if q ≤ 0 then (x :: t, q) else if x.2 ≤ q then payL t (q - x.2) else ((x.1, x.2 - q) :: t, 0)) = _
  rw [if_neg (by omega)]
theorem payL_end {l : List (Int × Int)} {q : Int} (h : ¬ 0 < q) : payL l q = (l, q) := by
  cases l with
  | nil => rfl
  | cons x t =>
    show (if q ≤ 0 then (x :: t, q) else if x.2 ≤ q then payL t (q - x.2) else ((x.1, x.2 - q) :: t, 0)) = _
    rw [if_pos (by omega)]

/-- What is left is ahead. -/
theorem pay_end {wr w : World} {g n c : Nat} {A A0 : Option Addr} {h q : Int} {l : List (Int × Int)} {v : Value}
    (hg2 : wr.heap[g]? = some (.cells #[v, .int .i64 h] 83)) (hA : IAt wr g A n c l) (hk : twoK g A0 w wr) :
    (wr.setCell ⟨g, 1, none⟩ (.int .i64 q)).heap[g]? = some (.cells #[v, .int .i64 q] 83) ∧ IAt (wr.setCell ⟨g, 1, none⟩ (.int .i64 q)) g A n c l ∧ twoK g A0 w (wr.setCell ⟨g, 1, none⟩ (.int .i64 q)) := by
  refine ⟨by rw [heap_set8 hg2]; rfl, ?_, hk.set _ (.inl rfl)⟩
  obtain ⟨h1, h2, h3, h4⟩ := hA
  refine ⟨h1, h2, h3, ?_⟩
  rcases h4 with h4 | ⟨own, off, cur, h5, h6, h7, h8⟩
  · exact .inl h4
  · exact .inr ⟨own, off, cur, h5, h6, (Below.heap_setCell _ _ _ _ h6).trans h7, h8⟩

set_option maxHeartbeats 8000000 in
set_option maxRecDepth 100000 in
theorem pay_any (g : Nat) (A0 : Option Addr) (n0 c0 : Nat) (l0 : List (Int × Int)) (h p0 : Int) (w : World) (hg : w.heap[g]? = some (.cells #[.slice A0 n0 c0, .int .i64 h] 83)) (hA : IAt w g A0 n0 c0 l0)
    (hp0 : 0 ≤ p0) (hp1 : p0 ≤ 1000000000000) (hh0 : 0 ≤ h) (hh1 : h ≤ 1000000000000) (hx : ∀ x ∈ l0, 0 < x.2 ∧ x.2 ≤ 1000000000000) :
    Calls Try.prog 84 #[.pointer (some ⟨g, 0, none⟩), .int .i64 p0] w fun e w' => e = .returned (.tuple #[]) ∧ ∃ A n c, w'.heap[g]? = some (.cells #[.slice A n c, .int .i64 (h + (payL l0 p0).2)] 83) ∧ IAt w' g A n c (payL l0 p0).1 ∧ (∀ b o s, A = some ⟨b, o, s⟩ → ∃ o', A0 = some ⟨b, o', none⟩) ∧ twoK g A0 w w' := by
  have HG := Lib.hid hg
  have HA := Lib.hid hA
  clear hg hA
  go_enter Try.func84, Try.ntmps84
  go_wp2
  go_loopw [1, 4, 5] (fun p _ _ wr => ∃ (l : List (Int × Int)) (q : Int) (A : Option Addr) (n c : Nat), p = .int .i64 q ∧ 0 ≤ q ∧ q ≤ p0 ∧ payL l q = payL l0 p0 ∧ l.length ≤ l0.length ∧ (∀ x ∈ l, 0 < x.2 ∧ x.2 ≤ 1000000000000) ∧ wr.heap[g]? = some (.cells #[.slice A n c, .int .i64 h] 83) ∧ IAt wr g A n c l ∧ (∀ b o s, A = some ⟨b, o, s⟩ → ∃ o', A0 = some ⟨b, o', none⟩) ∧ twoK g A0 w wr) (fun p _ _ _ => (intOf p).toNat)
  case atStart => exact ⟨l0, p0, A0, n0, c0, rfl, hp0, Int.le_refl _, rfl, Nat.le_refl _, hx, HG.out, HA.out, fun b o s h => by
      rcases HA.out.2.2.2 with ⟨h1, _⟩ | ⟨own, off, cur, h1, _⟩
      · rw [h1] at h; cases h
      · rw [h1] at h; injection h with h; injection h with e1 e2 e3; subst e1; exact ⟨off, h1⟩, ⟨rfl, rfl, rfl, rfl, fun _ _ _ => rfl⟩⟩
  case round =>
    obtain ⟨l, q, A, n, c, rfl, hq0, hq1, hpay, hlen, hxs, hg2, hA2, hAo, hk⟩ := hrel
    have HI := Lib.hid (And.intro hpay (And.intro hlen (And.intro hAo hk)))
    clear hpay hlen hAo hk
    obtain ⟨rfl, hnc, hcm, hA3⟩ := hA2
    have hg0 : wr.cell? ⟨g, 0, none⟩ = some (.slice A l.length c) := by simp [World.cell?, hg2]
    have hg1 : wr.cell? ⟨g, 1, none⟩ = some (.int .i64 h) := by simp [World.cell?, hg2]
    have hgl := lt_of_heap hg2
    by_cases hq : 0 < q
    · cases l with
      | nil =>
        have hpe : payL l0 p0 = ([], q) := HI.out.1.symm
        have HE := Lib.hid (pay_end (q := h + q) hg2 ⟨rfl, hnc, hcm, hA3⟩ HI.out.2.2.2)
        have hf0 : wr.frozen? ⟨g, 1, none⟩ = false := by simp [World.frozen?, hg2]
        clear hg2 hA3
        go_wp2
        go_end0
        refine ⟨rfl, A, ([] : List (Int × Int)).length, c, ?_, ?_, HI.out.2.2.1, HE.out.2.2⟩
        · rw [hpe]; exact HE.out.1
        · rw [hpe]; exact HE.out.2.1
      | cons x t =>
        rcases hA3 with ⟨_, h0⟩ | ⟨own, off, cur, rfl, hne, hcur, hsz, hv⟩
        · simp at hnc; omega
        · obtain ⟨v0, v1⟩ := hv 0 x rfl
          obtain ⟨x1, x2⟩ := hxs x (by simp)
          have ho0 : wr.cell? ⟨own, off, none⟩ = some (.int .i64 x.1) := by rw [items_two hcur]; simpa using v0
          have ho1 : wr.cell? ⟨own, off + 1, none⟩ = some (.int .i64 x.2) := by rw [items_two hcur]; simpa using v1
          have hol := lt_of_heap hcur
          have HCU := Lib.hid hcur
          have HV := Lib.hid hv
          have HG2 := Lib.hid hg2
          clear hcur hv hg2 v0 v1
          have hlz : (0 : Int) < ((x :: t).length : Int) := by simp
          have hf0 : wr.frozen? ⟨g, 0, none⟩ = false := by simp [World.frozen?, HG2.out]
          have hf1 : wr.frozen? ⟨own, off + 1, none⟩ = false := by simp [World.frozen?, HCU.out]
          have HO := Lib.hid (show ∀ (o : Nat), ∀ b o' s, (some ⟨own, o, none⟩ : Option Addr) = some ⟨b, o', s⟩ → ∃ o'', A0 = some ⟨b, o'', none⟩ from fun o b o' s h => by
            injection h with h; injection h with e1 e2 e3; subst e1
            exact HI.out.2.2.1 own off none rfl)
          by_cases hle : x.2 ≤ q
          · have HP := Lib.hid (show payL t (q - x.2) = payL l0 p0 from by rw [← HI.out.1, payL_step hq, if_pos hle])
            by_cases hlt : x.2 < q
            · by_cases hc1 : c = 1
              · subst hc1
                have HC := Lib.hid (pay_cut HG2.out hne HCU.out hsz HV.out hnc hcm (.inl ⟨rfl, rfl⟩) HI.out.2.2.2 (HI.out.2.2.1 own off none rfl))
                go_wp2
                go_roundw
                case rel => exact ⟨t, q - x.2, _, _, _, rfl, by omega, by omega, HP.out, by have := HI.out.2.1; simp at this; omega, fun y hy => hxs y (by simp [hy]), HC.out.1, HC.out.2.1, HO.out _, HC.out.2.2⟩
                case measure => simp [intOf]; omega
              ·
                have HC := Lib.hid (pay_cut HG2.out hne HCU.out hsz HV.out hnc hcm (.inr rfl) HI.out.2.2.2 (HI.out.2.2.1 own off none rfl))
                go_wp2
                go_roundw
                case rel => exact ⟨t, q - x.2, _, _, _, rfl, by omega, by omega, HP.out, by have := HI.out.2.1; simp at this; omega, fun y hy => hxs y (by simp [hy]), HC.out.1, HC.out.2.1, HO.out _, HC.out.2.2⟩
                case measure => simp [intOf]; omega
            · have hqx : x.2 - q = 0 := by omega
              rw [show q - x.2 = 0 by omega] at HP
              by_cases hc1 : c = 1
              · subst hc1
                have HC := Lib.hid (pay_cut HG2.out hne HCU.out hsz HV.out hnc hcm (.inl ⟨rfl, rfl⟩) HI.out.2.2.2 (HI.out.2.2.1 own off none rfl))
                go_wp2
                go_roundw
                case rel => exact ⟨t, 0, _, _, _, rfl, Int.le_refl _, by omega, HP.out, by have := HI.out.2.1; simp at this; omega, fun y hy => hxs y (by simp [hy]), HC.out.1, HC.out.2.1, HO.out _, HC.out.2.2⟩
                case measure => simp [intOf]; omega
              ·
                have HC := Lib.hid (pay_cut HG2.out hne HCU.out hsz HV.out hnc hcm (.inr rfl) HI.out.2.2.2 (HI.out.2.2.1 own off none rfl))
                go_wp2
                go_roundw
                case rel => exact ⟨t, 0, _, _, _, rfl, Int.le_refl _, by omega, HP.out, by have := HI.out.2.1; simp at this; omega, fun y hy => hxs y (by simp [hy]), HC.out.1, HC.out.2.1, HO.out _, HC.out.2.2⟩
                case measure => simp [intOf]; omega
          · have HP := Lib.hid (show payL ((x.1, x.2 - q) :: t) 0 = payL l0 p0 from by rw [← HI.out.1, payL_step hq, if_neg hle]; exact payL_end (by omega))
            have hlt : ¬ x.2 < q := by omega
            have hqx : ¬ x.2 - q = 0 := by omega
            have hqy : (x.2 - q == 0) = false := by simpa using hqx
            have HC := Lib.hid (pay_less (q := q) HG2.out hne HCU.out hsz HV.out hnc hcm HI.out.2.2.2 (HI.out.2.2.1 own off none rfl))
            go_wp2
            go_roundw
            case rel => exact ⟨(x.1, x.2 - q) :: t, 0, _, _, _, rfl, Int.le_refl _, by omega, HP.out, by have := HI.out.2.1; simpa using this, fun y hy => by
              rcases List.mem_cons.1 hy with rfl | hy
              · exact ⟨by show 0 < x.2 - q; omega, by show x.2 - q ≤ 1000000000000; omega⟩
              · exact hxs y (by simp [hy]), HC.out.1, HC.out.2.1, HO.out _, HC.out.2.2⟩
            case measure => simp [intOf]; omega
    · have hpe : payL l0 p0 = (l, q) := by rw [← HI.out.1]; exact payL_end hq
      have HE := Lib.hid (pay_end (q := h + q) hg2 ⟨rfl, hnc, hcm, hA3⟩ HI.out.2.2.2)
      have hf0 : wr.frozen? ⟨g, 1, none⟩ = false := by simp [World.frozen?, hg2]
      have hqd := decide_eq_false hq
      clear hg2 hA3
      go_wp2
      go_end0
      refine ⟨rfl, A, l.length, c, ?_, ?_, HI.out.2.2.1, HE.out.2.2⟩
      · exact HE.out.1
      · exact HE.out.2.1
end Go.Proofs.Ytgdlcpocelicmaa
