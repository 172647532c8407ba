/- Lists of lists of steps in memory; what the levels of a case are made of; no statement is proved here. -/
import Derived.Test.YtcifmmdfjglbnaaDoorCaSteR
import Derived.Test.YtcifmmdfjglbnaaDoorCaAppS
namespace Go.Proofs.YtcifmmdfjglbnaaDoor
open Go.ChangeShapes Go.WideShapes Go.ChangeAt Go.RowKit

theorem infoStrs6 : (Tryd.prog.info? 30).map (fun i => (i.zero, i.size, i.bytes)) = some (some (.slice none 0 0), 1, 24) := by kernel_rfl
/-- The words of a list of steps. -/
def wsS (l : List Nat) : Nat → ByteArray := fun k => wdS (ilq l k)
/-- A slice of lists of steps: its headers in memory, and each list. -/
def LHasS (w : World) (A : Option Addr) (ls : List (List Nat)) : Prop := 0 < ls.length → ∃ b off, A = some ⟨b, off, none⟩ ∧ b < w.heap.size ∧ ∀ k l, ls[k]? = some l → ∃ B c, w.cell? ⟨b, off + k, none⟩ = some (.slice B l.length c) ∧ l.length ≤ c ∧ c ≤ 9223372036854775807 ∧ SHas w B l.length (wsS l) ∧ (B = none → c = 0)
theorem LHasS.later {w W : World} {A : Option Addr} {ls : List (List Nat)} (h : LHasS w A ls) (hb : Below w.heap.size w W) : LHasS W A ls := fun hn => by
  obtain ⟨b, off, e, hl, hk⟩ := h hn
  refine ⟨b, off, e, Nat.lt_of_lt_of_le hl hb.size, fun k l hlt => ?_⟩
  obtain ⟨B, c, h1, h2, h3, h4, h5⟩ := hk k l hlt
  exact ⟨B, c, (hb.cell (p := ⟨b, off + k, none⟩) hl).trans h1, h2, h3, h4.later hb, h5⟩
/-- A list in a block from a base on, other than one. -/
def InS (W : World) (base : Nat) (ob : Option Nat) (u : Value) (l : List Nat) : Prop :=
  ∃ A c, u = .slice A l.length c ∧ l.length ≤ c ∧ c ≤ 9223372036854775807 ∧ (0 < l.length → ∀ g o s, A = some ⟨g, o, s⟩ → base ≤ g ∧ g < W.heap.size ∧ ob ≠ some g) ∧ SHas W A l.length (wsS l) ∧ (A = none → c = 0)
theorem InS.later {W W' : World} {base : Nat} {ob : Option Nat} {u : Value} {l : List Nat} (h : InS W base ob u l) (hb : Below W.heap.size W W') : InS W' base ob u l := by
  obtain ⟨A, c, h1, h2, h3, h4, h5, h6⟩ := h
  exact ⟨A, c, h1, h2, h3, fun h0 g o s e => by obtain ⟨q1, q2, q3⟩ := h4 h0 g o s e; exact ⟨q1, Nat.lt_of_lt_of_le q2 hb.size, q3⟩, h5.later hb, h6⟩
theorem InS.grown {W W' : World} {base : Nat} {ob ob' : Option Nat} {u : Value} {l : List Nat} (h : InS W base ob u l) (hg : W.grownBy W' ob) (ho : ob' = ob ∨ ob' = some W.heap.size) : InS W' base ob' u l := by
  obtain ⟨A, c, h1, h2, h3, h4, h5, h6⟩ := h
  refine ⟨A, c, h1, h2, h3, fun h0 g o s e => ?_, fun hn => ?_, h6⟩
  · obtain ⟨q1, q2, q3⟩ := h4 h0 g o s e
    refine ⟨q1, Nat.lt_of_lt_of_le q2 hg.size, fun e2 => ?_⟩
    rcases ho with rfl | rfl
    · exact q3 e2
    · injection e2 with e2; omega
  · obtain ⟨b, off, e, hl, hP⟩ := h5 hn
    obtain ⟨q1, q2, q3⟩ := h4 hn b off none e
    exact ⟨b, off, e, Nat.lt_of_lt_of_le hl hg.size, fun k hk => (World.cell?_of_block (w := W) (hg.block b q2 (fun e => q3 e.symm))).trans (hP k hk)⟩
/-- A list of lists that the call makes: a row of its own, each list in a block of its own. -/
def LsS (W : World) (base : Nat) (v : Value) (ls : List (List Nat)) : Prop :=
  ∃ xs : List Value, W.ownsRow base 30 1 v ls.length xs ∧ ∀ (j : Nat) (l : List Nat), ls[j]? = some l → ∃ u, xs[j]? = some u ∧ InS W base v.ownBlock u l
theorem LsS.nil (W : World) (base : Nat) : LsS W base (.slice none 0 0) [] := ⟨[], World.ownsRow_nil _ _ _ _, fun j (l : List Nat) h => by simp at h⟩
theorem LsS.later {W W' : World} {base : Nat} {v : Value} {ls : List (List Nat)} (h : LsS W base v ls) (hb : Below W.heap.size W W') : LsS W' base v ls := by
  obtain ⟨xs, h1, h2⟩ := h
  exact ⟨xs, owns_later h1 hb, fun j l hj => by obtain ⟨u, q1, q2⟩ := h2 j l hj; exact ⟨u, q1, q2.later hb⟩⟩
theorem LsS.lt {W : World} {base : Nat} {v : Value} {ls : List (List Nat)} (h : LsS W base v ls) : ∀ g, v.ownBlock = some g → base ≤ g ∧ g < W.heap.size := by
  obtain ⟨xs, h1, _⟩ := h
  exact fun g hg => h1.lt g hg
/-- One list more, that lies elsewhere: what append does. -/
theorem LsS.push {W : World} {base : Nat} {v : Value} {ls : List (List Nat)} {l : List Nat} {u : Value} (ty : TypeId) (h : LsS W base v ls) (hu : InS W base v.ownBlock u l) (hn : ls.length ≤ 100000) (hbase : base ≤ W.heap.size) (g : Nat)
    (hc : W.heap[g]? = some (.cells #[u] 30)) (hu1 : u.oneCell' = true) :
    ∃ v' w', (Builtin.append_ #[101, 101] ty #[v, .slice (some ⟨g, 0, none⟩) 1 1]).run Tryd.prog W = .ok v' w' ∧ LsS w' base v' (ls ++ [l]) ∧ W.grownBy w' v.ownBlock ∧ (v'.ownBlock = v.ownBlock ∨ v'.ownBlock = some W.heap.size) := by
  obtain ⟨xs, h1, h2⟩ := h
  obtain ⟨i0, hi0, hz0, hz1, hz2⟩ := info_parts infoStrs6
  obtain ⟨v', w', r1, r2, r3, r4, r5⟩ := run_append_own_at (P := Tryd.prog) (w := W) base 101 ty 30 i0 (.slice none 0 0) 1 24 Tryd.underlying101 hi0 hz0 hz1 hz2 rfl (by decide) v ls.length xs h1 ⟨g, 0, none⟩ 1 1 [u] rfl (fun j u' hj => by
    have e : (⟨g, 0, none⟩ : Addr).add j = ⟨g, j, none⟩ := by unfold Addr.add; split <;> simp_all
    rw [e]
    simp only [World.cell?, hc]
    simpa using hj) (by intro u' hu'; simp at hu'; subst hu'; exact hu1) (by unfold maxLen; omega) (by omega) hbase
  refine ⟨v', w', r1, ?_, r3, r5⟩
  have hlen : xs.length = ls.length := by have := h1.1; omega
  refine ⟨xs ++ [u], by simpa using r2, fun j l' hj => ?_⟩
  rcases Nat.lt_or_ge j ls.length with hlt | hge
  · rw [List.getElem?_append_left hlt] at hj
    obtain ⟨u', q1, q2⟩ := h2 j l' hj
    exact ⟨u', by rw [List.getElem?_append_left (by omega)]; exact q1, q2.grown r3 r5⟩
  · rw [List.getElem?_append_right hge] at hj
    obtain rfl : j = ls.length := by
      rcases Nat.lt_or_ge (j - ls.length) 1 with h1 | h1
      · omega
      · rw [List.getElem?_eq_none (by simpa using h1)] at hj; cases hj
    simp only [Nat.sub_self, List.getElem?_cons_zero, Option.some.injEq] at hj
    subst hj
    exact ⟨u, by rw [List.getElem?_append_right (by omega), hlen]; simp, hu.grown r3 r5⟩
/-- Such a list is one in memory. -/
theorem LsS.has {W : World} {base : Nat} {v : Value} {ls : List (List Nat)} (h : LsS W base v ls) :
    ∃ A c, v = .slice A ls.length c ∧ ls.length ≤ c ∧ c ≤ 9223372036854775807 ∧ LHasS W A ls := by
  obtain ⟨xs, h1, h2⟩ := h
  rcases h1.2 with ⟨rfl, h0⟩ | ⟨g, cap, cur, rfl, hg, h5, h6, h7, h8, h9⟩
  · rw [h0]
    exact ⟨none, 0, rfl, Nat.le_refl _, by omega, fun h => absurd h (by omega)⟩
  · refine ⟨_, cap, rfl, h6, by unfold maxLen at h7; omega, fun hn => ⟨g, 0, rfl, lt_of_heap h5, fun k l hk => ?_⟩⟩
    obtain ⟨u, q1, B, c, rfl, r2, r3, _, r5, r6⟩ := h2 k l hk
    refine ⟨B, c, ?_, r2, r3, r5, r6⟩
    have hkl : k < ls.length := (List.getElem?_eq_some_iff.1 hk).1
    rw [← h9, List.getElem?_take] at q1
    rw [if_pos (by omega)] at q1
    simp only [World.cell?, h5]
    simpa using q1
/-- The blocks from one on that stood are as they were. -/
def Kp (a : Nat) (W W' : World) : Prop := W.heap.size ≤ W'.heap.size ∧ ∀ b, a ≤ b → b < W.heap.size → W'.heap[b]? = W.heap[b]?
theorem Kp.refl (a : Nat) (W : World) : Kp a W W := ⟨Nat.le_refl _, fun _ _ _ => rfl⟩
theorem Kp.below {a : Nat} {W W' W'' : World} (h : Kp a W W') (hb : Below W'.heap.size W' W'') : Kp a W W'' :=
  ⟨Nat.le_trans h.1 hb.size, fun b h1 h2 => (hb.block b (Nat.lt_of_lt_of_le h2 h.1)).trans (h.2 b h1 h2)⟩
theorem Kp.grown {a : Nat} {W W' W'' : World} {own : Option Nat} (h : Kp a W W') (hg : W'.grownBy W'' own) (ho : ∀ g, own = some g → g < a ∨ W.heap.size ≤ g) : Kp a W W'' :=
  ⟨Nat.le_trans h.1 hg.size, fun b h1 h2 => (hg.block b (Nat.lt_of_lt_of_le h2 h.1) (fun e => by rcases ho b e.symm with h3 | h3 <;> omega)).trans (h.2 b h1 h2)⟩
theorem SHas.kp {a : Nat} {W W' : World} {A : Option Addr} {n : Nat} {q : Nat → ByteArray} (h : SHas W A n q) (ha : ∀ g o s, A = some ⟨g, o, s⟩ → a ≤ g) (hk : Kp a W W') : SHas W' A n q := fun hn => by
  obtain ⟨b, off, e, hl, hP⟩ := h hn
  exact ⟨b, off, e, Nat.lt_of_lt_of_le hl hk.1, fun k hk2 => (World.cell?_of_block (w := W) (hk.2 b (ha b off none e) hl)).trans (hP k hk2)⟩
/-- A case behind which steps that may follow stand. -/
theorem cyF_way {q : Nat → ByteArray} : ∀ {d : Nat} {st : Int × Int × Int} {n : Nat} {w : List Nat}, cyF q n = some st → w ∈ lvS d st → (∀ k, k < d → q (n + k) = wsS w k) → cyF q (n + d) = some (ruS st w)
  | 0, st, n, w, h, hw, _ => by simp [lvS] at hw; subst hw; exact h
  | d + 1, (ct, la, lm), n, w, h, hw, hq => by
    simp only [lvS, List.mem_flatMap, List.mem_map] at hw
    obtain ⟨s, hs, v, hv, rfl⟩ := hw
    have h1 := cyF_step h hs (hq 0 (by omega))
    have h2 := cyF_way (st := (ct + 1, (s : Int), lmF lm s)) h1 hv (fun k hk => by
      have := hq (k + 1) (by omega)
      rw [show n + 1 + k = n + (k + 1) by omega]
      exact this)
    rw [show n + (d + 1) = n + 1 + d by omega]
    exact h2
/-- Every case can be closed by four steps at most. -/
theorem cfS_ends {q : Nat → ByteArray} {n : Nat} {st : Int × Int × Int} (h : cyF q n = some st) : ∃ d, d ≤ 4 ∧ cfS d st ≠ none := by
  obtain ⟨ct, la, lm⟩ := st
  obtain ⟨hct, hl0, _⟩ := cyF_ct h
  have key : ∀ (d : Nat) (ct la lm : Int) (w : List Nat), w ∈ lvS d (ct, la, lm) → clS (ruS (ct, la, lm) w) = true → cfS d (ct, la, lm) ≠ none := fun d ct la lm w h1 h2 h3 => by
    unfold cfS at h3
    rw [List.find?_eq_none] at h3
    exact h3 w h1 h2
  have ny : ∀ (ct la lm : Int) (L : List Nat), nyF ct la lm = L → nyS (ct, la, lm) = L := fun _ _ _ _ h => h
  have c5 : ∀ ct la lm : Int, 0 ≤ ct → clS (ct + 1, ((5 : Nat) : Int), lm) = true := fun ct la lm h => by
    show (decide (0 < ct + 1) && decide (((5 : Nat) : Int) = 5)) = true
    rw [decide_eq_true (show 0 < ct + 1 by omega)]; rfl
  have one : ∀ (ct la lm : Int), 0 ≤ ct → 5 ∈ nyF ct la lm → [5] ∈ lvS 1 (ct, la, lm) ∧ clS (ruS (ct, la, lm) [5]) = true := fun ct la lm h0 h5 => by
    refine ⟨?_, c5 ct la _ h0⟩
    simp only [lvS, List.mem_flatMap, List.mem_map]
    exact ⟨5, h5, [], by simp, rfl⟩
  have more : ∀ (d : Nat) (ct la lm : Int) (s : Nat) (w : List Nat), s ∈ nyF ct la lm → (w ∈ lvS d (ct + 1, (s : Int), lmF lm s) ∧ clS (ruS (ct + 1, (s : Int), lmF lm s) w) = true) → (s :: w) ∈ lvS (d + 1) (ct, la, lm) ∧ clS (ruS (ct, la, lm) (s :: w)) = true := fun d ct la lm s w hs hw => by
    refine ⟨?_, hw.2⟩
    simp only [lvS, List.mem_flatMap, List.mem_map]
    exact ⟨s, hs, w, hw.1, rfl⟩
  have e3 : ∀ ct lm : Int, 0 < ct → lm < 2 → 5 ∈ nyF ct ((3 : Nat) : Int) lm := fun ct lm h1 h2 => by unfold nyF; rw [if_neg (by omega), if_neg (by omega)]; decide
  have e2 : ∀ ct lm : Int, 0 < ct → lm < 2 → 3 ∈ nyF ct ((2 : Nat) : Int) lm := fun ct lm h1 h2 => by unfold nyF; rw [if_neg (by omega), if_neg (by omega)]; decide
  have e1 : ∀ ct lm : Int, 0 < ct → lm < 2 → 2 ∈ nyF ct ((1 : Nat) : Int) lm := fun ct lm h1 h2 => by unfold nyF; rw [if_neg (by omega), if_neg (by omega)]; decide
  have e0 : ∀ ct lm : Int, 0 < ct → lm < 2 → 5 ∈ nyF ct ((0 : Nat) : Int) lm := fun ct lm h1 h2 => by unfold nyF; rw [if_neg (by omega), if_neg (by omega)]; decide
  have e4 : ∀ ct lm : Int, 0 < ct → lm < 2 → 5 ∈ nyF ct ((4 : Nat) : Int) lm := fun ct lm h1 h2 => by unfold nyF; rw [if_neg (by omega), if_neg (by omega)]; decide
  have w3 : ∀ ct lm : Int, 0 < ct → lm < 2 → [5] ∈ lvS 1 (ct, ((3 : Nat) : Int), lm) ∧ clS (ruS (ct, ((3 : Nat) : Int), lm) [5]) = true := fun ct lm h1 h2 => one _ _ _ (by omega) (e3 ct lm h1 h2)
  have w2 : ∀ ct lm : Int, 0 < ct → lm < 2 → [3, 5] ∈ lvS 2 (ct, ((2 : Nat) : Int), lm) ∧ clS (ruS (ct, ((2 : Nat) : Int), lm) [3, 5]) = true := fun ct lm h1 h2 => more 1 _ _ _ 3 [5] (e2 ct lm h1 h2) (w3 (ct + 1) lm (by omega) h2)
  have w1 : ∀ ct lm : Int, 0 < ct → lm < 2 → [2, 3, 5] ∈ lvS 3 (ct, ((1 : Nat) : Int), lm) ∧ clS (ruS (ct, ((1 : Nat) : Int), lm) [2, 3, 5]) = true := fun ct lm h1 h2 => more 2 _ _ _ 2 [3, 5] (e1 ct lm h1 h2) (w2 (ct + 1) lm (by omega) h2)
  rcases cyF_wf h with ⟨_, rfl, rfl, rfl⟩ | ⟨m, s, rfl, hs6, rfl, _, _⟩
  · have := more 1 0 0 0 0 [5] (by decide) (one _ _ _ (by omega) (e0 1 0 (by omega) (by omega)))
    exact ⟨2, by omega, key _ _ _ _ _ this.1 this.2⟩
  have h0 : 0 < ct := by omega
  by_cases hl2 : 2 ≤ lm
  · have h1 : 1 ∈ nyF ct (s : Int) lm := by unfold nyF; rw [if_neg (by omega), if_pos hl2]; decide
    have := more 3 ct (s : Int) lm 1 [2, 3, 5] h1 (w1 (ct + 1) 0 (by omega) (by omega))
    exact ⟨4, by omega, key _ _ _ _ _ this.1 this.2⟩
  have hl3 : lm < 2 := by omega
  rcases (show s = 0 ∨ s = 1 ∨ s = 2 ∨ s = 3 ∨ s = 4 ∨ s = 5 by omega) with rfl | rfl | rfl | rfl | rfl | rfl
  · have := one ct _ lm (by omega) (e0 ct lm h0 hl3)
    exact ⟨1, by omega, key _ _ _ _ _ this.1 this.2⟩
  · have := w1 ct lm h0 hl3
    exact ⟨3, by omega, key _ _ _ _ _ this.1 this.2⟩
  · have := w2 ct lm h0 hl3
    exact ⟨2, by omega, key _ _ _ _ _ this.1 this.2⟩
  · have := w3 ct lm h0 hl3
    exact ⟨1, by omega, key _ _ _ _ _ this.1 this.2⟩
  · have := one ct _ lm (by omega) (e4 ct lm h0 hl3)
    exact ⟨1, by omega, key _ _ _ _ _ this.1 this.2⟩
  · refine ⟨0, by omega, key 0 ct _ lm [] (by simp [lvS]) ?_⟩
    show (decide (0 < ct) && decide (((5 : Nat) : Int) = 5)) = true
    rw [decide_eq_true h0]; rfl
end Go.Proofs.YtcifmmdfjglbnaaDoor
